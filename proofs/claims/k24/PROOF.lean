import PyProof.Rows.All
import Wide.All
import OpenK.AllK
import Wide.FinOn
import HandS.ForMost
import HandS.Wide
import HandS.TupAny
import HandS.IsInst
import HandS.Flow
import HandS.Evl
import HandS.Walk
import HandS.ExcInit
import HandS.Nested
import HandS.FStr
import HandS.TryOnly
import HandS.TryMany
import HandS.ExcIs
import HandS.ExcField
import HandS.WordsExc
import HandS.RaiseMore
import KE.KExcSuper
import KE.KExcIs
import PyProof.StrOps2
import PyProof.Rows.ReprOcc
import PyProof.Rows.StrDigits
import PyProof.Rows.StrJoinMade
import HandS.ClsMeth
import HandS.Star
import HandS.Property
import HandS.New
import HandS.ExcOwn
import HandS.More
import HandS.Dict
import HandS.Small
import KE.KOpsOwn
import OpenK.KMeth
import HandS.Conv
import HandS.Finally
import PyProof.StrLawsRepr
import HandS.Defaults
import HandS.Text
import HandS.IterVal
import KE.KOwnIter
import HandS.Strs
import HandS.Iter
import KE.GoesMore
import HandS.Style
import PySem.Challenge.RW_elseput_k24_order_of_names
set_option Elab.async false
set_option linter.all false
set_option maxRecDepth 100000
/-! Own words over the hand layer: readings that compute on the values' shapes. -/
namespace El
open PySem PySem.Spec PyProof.Rows L2
section
variable {X : Cx}

theorem wk {e : Expr} {t t' : TE} (h : PE X e t) (i : ∀ σ H Q, t' σ H Q → t σ H Q) : PE X e t' :=
  ⟨fun pins s σ H Q I q => h.run pins s σ H Q I (i σ H Q q)⟩
theorem opwk {f : Value → Value → Sem Value} {r r' : R2} (h : OpR X f r) (i : ∀ x y H Q, r' x y H Q → r x y H Q) : OpR X f r' :=
  fun pins s σ H x y v u Q I rx ry q => h pins s σ H x y v u Q I rx ry (i x y H Q q)
theorem unwk {f : Value → Sem Value} {r r' : V → Hp → VK → Prop} (h : UnR X f r) (i : ∀ x H Q, r' x H Q → r x H Q) : UnR X f r' :=
  fun pins s σ H x v Q I rx q => h pins s σ H x v Q I rx (i x H Q q)
theorem cwk {f : Value} {r r' : List V → Hp → VK → Prop} (h : CallR X f r) (i : ∀ x H Q, r' x H Q → r x H Q) : CallR X f r' :=
  fun pins s σ H x v Q I rx q => h pins s σ H x v Q I rx (i x H Q q)
theorem ixwk {r r' : R2} (h : IxR X r) (i : ∀ x y H Q, r' x y H Q → r x y H Q) : IxR X r' :=
  fun a b pins s σ H x y v u Q I rx ry q => h a b pins s σ H x y v u Q I rx ry (i x y H Q q)
theorem slwk {r r' : V → Option Int → Option Int → Hp → VK → Prop} (h : SlR X r) (i : ∀ x a b H Q, r' x a b H Q → r x a b H Q) : SlR X r' :=
  fun pins s σ H x v vl vu lo hi sl Q I rx hs pl pu q => h pins s σ H x v vl vu lo hi sl Q I rx hs pl pu (i x lo hi H Q q)

/-! ### a name in its slot -/
def tV (i : Nat) : TE := fun σ H Q => match σ[i]? with | some (some v) => Q v H | _ => False
theorem v_ (i : Nat) {x : Str} {pos : Pos} (hN : X.N[i]? = some x := by rfl) (hv : Vis X.env.scope x := by first | exact Or.inl rfl | exact Or.inr (Or.inl rfl) | exact Or.inr (Or.inr rfl)) (hd : (x == ("__debug__" : Str)) = false := by decide)
    (hcd : (x == ("__classdict__" : Str)) = false := by decide) : PE X (.Name x pos) (tV i) :=
  wk (pv i hN hv hd hcd) fun σ H Q q => by
    unfold tV at q
    split at q
    · rename_i v e; exact ⟨v, e, q⟩
    · exact q.elim

/-! ### operators -/
def addM (K : PySem.W.Frag) : R2 := fun x y H Q => match x, y with
  | .int i, .int j => Q (.int (i + j)) H
  | .str i, .str j => i.length + j.length ≤ sizeLine ∧ Q (.str (i ++ j)) H
  | .ref a, .ref b => (∃ xs zs, H a = some (.lst xs) ∧ H b = some (.lst zs) ∧ xs.length + zs.length ≤ sizeLine ∧ ∀ p, H p = none → Q (.ref p) (upd H p (.lst (xs ++ zs)))) ∨ rCatT K (.ref a) (.ref b) H Q
  | _, _ => False
theorem op_addM : OpR X (binaryOp .Add) (addM X.K) := opwk (OpR.or op_add (OpR.or op_add_str (OpR.or op_cat op_catT))) fun x y H Q q => by
  unfold addM at q
  split at q
  · exact .inl ⟨_, _, rfl, rfl, q⟩
  · exact .inr (.inl ⟨_, _, rfl, rfl, q⟩)
  · rcases q with ⟨xs, zs, h1, h2, h3, h4⟩ | q
    · exact .inr (.inr (.inl ⟨_, _, xs, zs, rfl, rfl, h1, h2, h3, h4⟩))
    · exact .inr (.inr (.inr q))
  · exact q.elim
def subM : R2 := fun x y H Q => match x, y with
  | .int i, .int j => Q (.int (i - j)) H
  | _, _ => False
theorem op_subM : OpR X (binaryOp .Sub) subM := opwk op_sub fun x y H Q q => by
  unfold subM at q
  split at q
  · exact ⟨_, _, rfl, rfl, q⟩
  · exact q.elim
def mulM : R2 := fun x y H Q => match x, y with
  | .int i, .int j => (CMul i j ∨ CMulW i j) ∧ Q (.int (i * j)) H
  | .ref l, .int k => ∃ xs, H l = some (.lst xs) ∧ (-(2 ^ 63) ≤ k ∧ k < 2 ^ 63) ∧ xs.length * k.toNat ≤ sizeLine ∧ ∀ p, H p = none → Q (.ref p) (upd H p (.lst (List.replicate k.toNat xs).flatten))
  | _, _ => False
theorem op_mulM : OpR X (binaryOp .Mult) mulM := opwk (OpR.or op_mul (OpR.or op_mulW op_rep)) fun x y H Q q => by
  unfold mulM at q
  split at q
  · obtain ⟨h | h, q⟩ := q
    · exact .inl ⟨_, _, rfl, rfl, h, q⟩
    · exact .inr (.inl ⟨_, _, rfl, rfl, h, q⟩)
  · obtain ⟨xs, h1, h2, h3, h4⟩ := q
    exact .inr (.inr ⟨_, _, xs, rfl, rfl, h1, h2.1, h2.2, h3, h4⟩)
  · exact q.elim
def divM : R2 := fun x y H Q => match x, y with
  | .int i, .int j => (CDiv i j ∨ CDivW i j) ∧ Q (.int (i / j)) H
  | _, _ => False
theorem op_divM : OpR X (binaryOp .FloorDiv) divM := opwk (OpR.or op_fdiv op_fdivW) fun x y H Q q => by
  unfold divM at q
  split at q
  · obtain ⟨h | h, q⟩ := q
    · exact .inl ⟨_, _, rfl, rfl, h, q⟩
    · exact .inr ⟨_, _, rfl, rfl, h, q⟩
  · exact q.elim
def modM : R2 := fun x y H Q => match x, y with
  | .int i, .int j => 0 < j ∧ Q (.int (i % j)) H
  | _, _ => False
theorem op_modM : OpR X (binaryOp .Mod) modM := opwk op_mod fun x y H Q q => by
  unfold modM at q
  split at q
  · exact ⟨_, _, rfl, rfl, q.1, q.2⟩
  · exact q.elim
def powM : R2 := fun x y H Q => match x, y with
  | .int i, .int j => CPow i j ∧ Q (.int (i ^ j.toNat)) H
  | _, _ => False
theorem op_powM : OpR X (binaryOp .Pow) powM := opwk op_pow fun x y H Q q => by
  unfold powM at q
  split at q
  · exact ⟨_, _, rfl, rfl, q.1, q.2⟩
  · exact q.elim
def negM : V → Hp → VK → Prop := fun x H Q => match x with
  | .int i => Q (.int (-i)) H
  | _ => False
theorem un_negM : UnR X (unaryOp .USub) negM := unwk un_neg fun x H Q q => by
  unfold negM at q
  split at q
  · exact ⟨_, rfl, q⟩
  · exact q.elim

/-! ### comparisons -/
def cmpM (f : Int → Int → Bool) : R2 := fun x y H Q => match x, y with
  | .int i, .int j => Q (.bl (f i j)) H
  | _, _ => False
theorem cmpwk {f : Int → Int → Bool} {g : Value → Value → Sem Value} (h : OpR X g (rI0 fun i j => .bl (f i j))) : OpR X g (cmpM f) := opwk h fun x y H Q q => by
  unfold cmpM at q
  split at q
  · exact ⟨_, _, rfl, rfl, q⟩
  · exact q.elim
theorem op_ltM : OpR X (compareOp .Lt) (cmpM fun i j => decide (i < j)) := cmpwk op_lt
theorem op_leM : OpR X (compareOp .LtE) (cmpM fun i j => decide (i ≤ j)) := cmpwk op_le
theorem op_gtM : OpR X (compareOp .Gt) (cmpM fun i j => decide (j < i)) := cmpwk op_gt
theorem op_geM : OpR X (compareOp .GtE) (cmpM fun i j => decide (j ≤ i)) := cmpwk op_ge
/-- ==: of plain values by the values; else of data -/
def eqM (K : PySem.W.Frag) : R2 := fun x y H Q => match x, y with
  | .int i, .int j => Q (.bl (decide (i = j))) H
  | .str i, .str j => Q (.bl (decide (i = j))) H
  | .bl i, .bl j => Q (.bl (decide (i = j))) H
  | .non, .non => Q (.bl true) H
  | .non, .int _ => Q (.bl false) H
  | .int _, .non => Q (.bl false) H
  | .non, .str _ => Q (.bl false) H
  | .str _, .non => Q (.bl false) H
  | .non, .bl _ => Q (.bl false) H
  | .bl _, .non => Q (.bl false) H
  | .int _, .str _ => Q (.bl false) H
  | .str _, .int _ => Q (.bl false) H
  | .bl _, .str _ => Q (.bl false) H
  | .str _, .bl _ => Q (.bl false) H
  | x, y => rEqD K x y H Q
theorem op_eqM (hu : X.A.units + 64 < cLine) : OpR X (compareOp .Eq) (eqM X.K) := opwk (OpR.or op_eq (op_eqD hu)) fun x y H Q q => by
  unfold eqM at q
  split at q
  all_goals first
    | exact .inl ⟨rfl, by simpa using q⟩
    | exact .inr q
def neM (K : PySem.W.Frag) : R2 := fun x y H Q => match x, y with
  | .int i, .int j => Q (.bl (!decide (i = j))) H
  | .str i, .str j => Q (.bl (!decide (i = j))) H
  | .bl i, .bl j => Q (.bl (!decide (i = j))) H
  | .non, .non => Q (.bl false) H
  | .non, .int _ => Q (.bl true) H
  | .int _, .non => Q (.bl true) H
  | .non, .str _ => Q (.bl true) H
  | .str _, .non => Q (.bl true) H
  | .non, .bl _ => Q (.bl true) H
  | .bl _, .non => Q (.bl true) H
  | .int _, .str _ => Q (.bl true) H
  | .str _, .int _ => Q (.bl true) H
  | .bl _, .str _ => Q (.bl true) H
  | .str _, .bl _ => Q (.bl true) H
  | x, y => rNeD K x y H Q
theorem op_neM (hu : X.A.units + 64 < cLine) : OpR X (compareOp .NotEq) (neM X.K) := opwk (OpR.or op_ne (op_neD hu)) fun x y H Q q => by
  unfold neM at q
  split at q
  all_goals first
    | exact .inl ⟨rfl, by simpa using q⟩
    | exact .inr q
/-- is, is not: None, True, False -/
def isV (x y : V) : Bool := match x, y with
  | .non, .non => true
  | .bl a, .bl b => a == b
  | _, _ => false
def litV (y : V) : Bool := match y with | .non => true | .bl _ => true | _ => false
def isM : R2 := fun x y H Q => match litV y with | true => Q (.bl (isV x y)) H | false => False
def notM : R2 := fun x y H Q => match litV y with | true => Q (.bl (!isV x y)) H | false => False
theorem lit_cases {y : V} (h : litV y = true) : y = .non ∨ ∃ b, y = .bl b := by
  cases y with
  | non => exact .inl rfl
  | bl b => exact .inr ⟨b, rfl⟩
  | _ => exact absurd (show false = true from h) (by decide)
theorem is_other {A : Around} {E : Value → Shared → Prop} {M : Model} {x : V} {v : Value} {b : Bool} {s : Shared} {Q : Value → Shared → Prop} (rx : RelV x v) (h : Q (.bool (isV x (.bl b))) s) : wpAny M A (compareOp .Is v (.bool b)) Q E s := by
  cases x with
  | bl a =>
    cases rx
    by_cases e : a = b
    · subst e; exact wpAny_is_self rfl (by simpa [isV] using h)
    · exact wpAny_is_other rfl (fun z => e (Value.bool.inj z)) (by rw [show isV (.bl a) (.bl b) = false from beq_eq_false_iff_ne.mpr e] at h; exact h)
  | non => cases rx; exact wpAny_is_other rfl (by intro z; cases z) h
  | int i => obtain ⟨t, rfl⟩ := rx; exact wpAny_is_other rfl (by intro z; cases z) h
  | str i => obtain ⟨t, rfl⟩ := rx; exact wpAny_is_other rfl (by intro z; cases z) h
  | byt i => obtain ⟨t, rfl⟩ := rx; exact wpAny_is_other rfl (by intro z; cases z) h
  | flt i => obtain ⟨t, rfl⟩ := rx; exact wpAny_is_other rfl (by intro z; cases z) h
  | ref a => cases rx; exact wpAny_is_other rfl (by intro z; cases z) h
  | ty n => cases rx; exact wpAny_is_other rfl (by intro z; cases z) h
theorem isnot_other {A : Around} {E : Value → Shared → Prop} {M : Model} {x : V} {v : Value} {b : Bool} {s : Shared} {Q : Value → Shared → Prop} (rx : RelV x v) (h : Q (.bool (!isV x (.bl b))) s) : wpAny M A (compareOp .IsNot v (.bool b)) Q E s := by
  cases x with
  | bl a =>
    cases rx
    by_cases e : a = b
    · subst e; exact wpAny_isNot_self rfl (by simpa [isV] using h)
    · exact wpAny_isNot_other rfl (fun z => e (Value.bool.inj z)) (by rw [show isV (.bl a) (.bl b) = false from beq_eq_false_iff_ne.mpr e] at h; exact h)
  | non => cases rx; exact wpAny_isNot_other rfl (by intro z; cases z) h
  | int i => obtain ⟨t, rfl⟩ := rx; exact wpAny_isNot_other rfl (by intro z; cases z) h
  | str i => obtain ⟨t, rfl⟩ := rx; exact wpAny_isNot_other rfl (by intro z; cases z) h
  | byt i => obtain ⟨t, rfl⟩ := rx; exact wpAny_isNot_other rfl (by intro z; cases z) h
  | flt i => obtain ⟨t, rfl⟩ := rx; exact wpAny_isNot_other rfl (by intro z; cases z) h
  | ref a => cases rx; exact wpAny_isNot_other rfl (by intro z; cases z) h
  | ty n => cases rx; exact wpAny_isNot_other rfl (by intro z; cases z) h
theorem isV_non (x : V) : isV x .non = decide (x = .non) := by cases x <;> rfl
theorem op_isM : OpR X (compareOp .Is) isM := by
  intro pins s σ H x y v u Q I rx ry q
  unfold isM at q
  split at q
  · rename_i e
    rcases lit_cases e with rfl | ⟨b, rfl⟩
    · exact op_isN pins s σ H x .non v u Q I rx ry ⟨rfl, by rw [← isV_non]; exact q⟩
    · cases ry
      exact is_other rx ⟨.bl _, H, I, rfl, q⟩
  · exact q.elim
theorem op_isNotM : OpR X (compareOp .IsNot) notM := by
  intro pins s σ H x y v u Q I rx ry q
  unfold notM at q
  split at q
  · rename_i e
    rcases lit_cases e with rfl | ⟨b, rfl⟩
    · exact op_notN pins s σ H x .non v u Q I rx ry ⟨rfl, by rw [← isV_non]; exact q⟩
    · cases ry
      exact isnot_other rx ⟨.bl _, H, I, rfl, q⟩
  · exact q.elim
/-- in: a list or a tuple of plain things; a sign in a text -/
def inM (K : PySem.W.Frag) (neg : Bool) : R2 := fun x y H Q => match y with
  | .str z => ∃ c : Nat, x = .str ⟨#[c]⟩ ∧ Q (.bl (if neg then !decide (c ∈ z.cps.toList) else decide (c ∈ z.cps.toList))) H
  | .ref p => ∃ xs, (SqL K H p xs ∨ SqT K H p xs) ∧ flatV x = true ∧ xs.all flatV = true ∧ Q (.bl (if neg then !inV x xs else inV x xs)) H
  | _ => False
theorem op_inM : OpR X (compareOp .In) (inM X.K false) := opwk (OpR.or op_in_sign op_in_seq) fun x y H Q q => by
  unfold inM at q
  split at q
  · obtain ⟨c, e, q⟩ := q
    exact .inl ⟨c, _, e, rfl, q⟩
  · obtain ⟨xs, h1, h2, h3, q⟩ := q
    exact .inr ⟨_, xs, rfl, h1, h2, h3, q⟩
  · exact q.elim
theorem op_notInM : OpR X (compareOp .NotIn) (inM X.K true) := opwk (OpR.or op_notIn_sign op_notIn_seq) fun x y H Q q => by
  unfold inM at q
  split at q
  · obtain ⟨c, e, q⟩ := q
    exact .inl ⟨c, _, e, rfl, q⟩
  · obtain ⟨xs, h1, h2, h3, q⟩ := q
    exact .inr ⟨_, xs, rfl, h1, h2, h3, q⟩
  · exact q.elim

/-! ### tests -/
variable {a b : Expr} {rest : List Expr} {ta tb : TE} {pos : Pos}
def tTs (t : TE) : TT := fun σ H Q => t σ H fun x H' => match x with | .bl k => Q k H' | _ => False
theorem pt_c {op : CmpOp} {r : R2} (ho : OpR X (compareOp op) r) (ha : PE X a ta) (hb : PE X b tb) (hm : behindInMarks op b = false := by first | exact nomark _ | rfl) : PT X (.Compare a [op] [b] pos) (tTs (tOp r ta tb)) := by
  refine ⟨fun pins s σ H Q I h => ?_⟩
  refine wpAny_isTrue_Compare1 (thn (ha.run pins s σ H _ I h) fun v s1 ⟨x, H1, I1, r1, q1⟩ => thn (hb.run pins s1 σ H1 _ I1 q1) fun u s2 ⟨y, H2, I2, r2, q2⟩ =>
    thn (ho pins s2 σ H2 x y v u _ I2 r1 r2 q2) fun c s3 ⟨z, H3, I3, r3, q3⟩ => ?_) hm
  cases z with
  | bl k => cases r3; exact wpAny_truthy_bool ⟨H3, I3, q3⟩
  | _ => exact (show False from q3).elim
theorem pe_c {op : CmpOp} {r : R2} (ho : OpR X (compareOp op) r) (ha : PE X a ta) (hb : PE X b tb) (hm : behindInMarks op b = false := by first | exact nomark _ | rfl) : PE X (.Compare a [op] [b] pos) (tOp r ta tb) := pe_cmpR ho ha hb hm
/-- any value's truth -/
def tTr (K : PySem.W.Frag) (t : TE) : TT := fun σ H Q => t σ H fun x H' => match x with
  | .bl k => Q k H'
  | .non => Q false H'
  | .int i => Q (i != 0) H'
  | .str y => y.length ≤ sizeLine ∧ Q ((y.length : Int) != 0) H'
  | .ref p => (∃ xs, SqL K H' p xs ∧ Q (!xs.isEmpty) H') ∨ (∃ xs, SqT K H' p xs ∧ Q (!xs.isEmpty) H') ∨ ∃ kvs, H' p = some (.dK kvs) ∧ Q (!kvs.isEmpty) H'
  | _ => False
theorem pt_tr (ha : PE X a ta) (he : ∀ whole, isTrue a X.env whole = (do let v ← whole; standAt a.pos; holding [v] (truthy v)) := by intro _; rfl) : PT X a (tTr X.K ta) := by
  refine ⟨fun pins s σ H Q I h => ?_⟩
  refine isTrue_plain (thn (ha.run pins s σ H _ I h) fun v s1 ⟨x, H1, I1, r1, q1⟩ => tru_ok pins s1 σ H1 x v Q I1 r1 ?_) (he _)
  cases x with
  | bl k => exact ⟨k, rfl, q1⟩
  | non => exact ⟨false, rfl, q1⟩
  | int i => exact ⟨_, rfl, q1⟩
  | str y => exact ⟨_, ⟨q1.1, rfl⟩, q1.2⟩
  | ref p =>
    rcases (show (∃ xs, SqL X.K H1 p xs ∧ Q (!xs.isEmpty) H1) ∨ (∃ xs, SqT X.K H1 p xs ∧ Q (!xs.isEmpty) H1) ∨ ∃ kvs, H1 p = some (.dK kvs) ∧ Q (!kvs.isEmpty) H1 from q1) with ⟨xs, h, q⟩ | ⟨xs, h, q⟩ | ⟨xs, h, q⟩
    · exact ⟨_, .inl ⟨xs, h, rfl⟩, q⟩
    · exact ⟨_, .inr (.inl ⟨xs, h, rfl⟩), q⟩
    · exact ⟨_, .inr (.inr ⟨xs, h, rfl⟩), q⟩
  | _ => exact (show False from q1).elim
def tAndM (ta tb : TE) : TE := fun σ H Q => ta σ H fun x H1 => match x with | .bl c => (if c = true then tb σ H1 Q else Q (.bl false) H1) | _ => False
def tOrM (ta tb : TE) : TE := fun σ H Q => ta σ H fun x H1 => match x with | .bl c => (if c = true then Q (.bl true) H1 else tb σ H1 Q) | _ => False
def tNotM (ta : TE) : TE := fun σ H Q => ta σ H fun x H1 => match x with | .bl c => Q (.bl (!c)) H1 | _ => False
theorem pe_andM (ha : PE X a ta) (hb : PE X (.BoolOp .And (b :: rest) pos) tb) : PE X (.BoolOp .And (a :: b :: rest) pos) (tAndM ta tb) := by
  refine ⟨fun pins s σ H Q I h => ?_⟩
  refine BoolOp_and (thn (ha.run pins s σ H _ I h) fun v s1 ⟨x, H1, I1, r1, q1⟩ => ?_)
  cases x with
  | bl c =>
    cases r1
    refine wpAny_truthy_bool ?_
    cases c with
    | true => exact hb.run pins s1 σ H1 Q I1 q1
    | false => exact ⟨.bl false, H1, I1, rfl, q1⟩
  | _ => exact (show False from q1).elim
theorem pe_orM (ha : PE X a ta) (hb : PE X (.BoolOp .Or (b :: rest) pos) tb) : PE X (.BoolOp .Or (a :: b :: rest) pos) (tOrM ta tb) := by
  refine ⟨fun pins s σ H Q I h => ?_⟩
  refine BoolOp_or (thn (ha.run pins s σ H _ I h) fun v s1 ⟨x, H1, I1, r1, q1⟩ => ?_)
  cases x with
  | bl c =>
    cases r1
    refine wpAny_truthy_bool ?_
    cases c with
    | false => exact hb.run pins s1 σ H1 Q I1 q1
    | true => exact ⟨.bl true, H1, I1, rfl, q1⟩
  | _ => exact (show False from q1).elim
theorem pe_notM (ha : PE X a ta) : PE X (.UnaryOp .Not a pos) (tNotM ta) := by
  refine ⟨fun pins s σ H Q I h => ?_⟩
  refine UnaryOp_ (thn (ha.run pins s σ H _ I h) fun v s1 ⟨x, H1, I1, r1, q1⟩ => ?_)
  cases x with
  | bl c => cases r1; exact not_of (wpAny_truthy_bool ⟨.bl (!c), H1, I1, rfl, q1⟩)
  | _ => exact (show False from q1).elim

/-! ### subscripts, slices, calls of built-ins -/
def ixM (K : PySem.W.Frag) : R2 := fun x y H Q => match x, y with
  | .str z, .int i => z.length ≤ sizeLine ∧ ∃ c, atI z.cps.toList i = some c ∧ Q (.str ⟨#[c]⟩) H
  | .ref p, .int i => ∃ xs, (SqL K H p xs ∨ SqT K H p xs) ∧ ∃ v, atI xs i = some v ∧ Q v H
  | _, _ => False
theorem ix_M : IxR X (ixM X.K) := ixwk ix_seq fun x y H Q q => by
  unfold ixM at q
  split at q
  · obtain ⟨h, c, e, q⟩ := q
    exact .inr (.inr ⟨_, _, c, rfl, rfl, h, e, q⟩)
  · obtain ⟨xs, h | h, v, e, q⟩ := q
    · exact .inl ⟨_, xs, _, v, rfl, rfl, h, e, q⟩
    · exact .inr (.inl ⟨_, xs, _, v, rfl, rfl, h, e, q⟩)
  · exact q.elim
theorem e_ix (ha : PE X a ta) (hb : PE X b tb) (hs : PlainIx b := by intro _ _; rfl) : PE X (.Subscript a b pos) (tOp (ixM X.K) ta tb) := pe_ix ix_M ha hb hs
def slM (K : PySem.W.Frag) : V → Option Int → Option Int → Hp → VK → Prop := fun x lo hi H Q => match x with
  | .str z => z.length ≤ sizeLine ∧ Q (.str (cutS z lo hi)) H
  | .ref p => (∃ xs, SqL K H p xs ∧ ∀ q, H q = none → Q (.ref q) (upd H q (.lst (cutV xs lo hi)))) ∨ rSlT K (.ref p) lo hi H Q
  | _ => False
theorem sl_M : SlR X (slM X.K) := slwk (SlR.or sl_str (SlR.or sl_list sl_tup)) fun x lo hi H Q q => by
  unfold slM at q
  split at q
  · exact .inl ⟨_, rfl, q.1, q.2⟩
  · rcases q with ⟨xs, h, q⟩ | q
    · exact .inr (.inl ⟨_, xs, rfl, h, q⟩)
    · exact .inr (.inr q)
  · exact q.elim
def intM : List V → Hp → VK → Prop := fun xs H Q => match xs with
  | [.int i] => Q (.int i) H
  | [.bl k] => Q (.int (if k then 1 else 0)) H
  | [.str a] => ∃ n, PySem.intText? a = some n ∧ a.length ≤ 640 ∧ Q (.int n) H
  | _ => False
theorem call_intM : CallR X (.type "int") intM := cwk (CallR.or call_int1 call_int_str) fun xs H Q q => by
  unfold intM at q
  split at q
  · exact .inl (.inl ⟨_, rfl, q⟩)
  · exact .inl (.inr ⟨_, rfl, q⟩)
  · obtain ⟨n, h1, h2, q⟩ := q
    exact .inr ⟨_, n, rfl, h1, h2, q⟩
  · exact q.elim
def lenM (K : PySem.W.Frag) : List V → Hp → VK → Prop := fun xs H Q => match xs with
  | [.str z] => z.length ≤ sizeLine ∧ Q (.int z.length) H
  | [.ref p] => (∃ xs, (SqL K H p xs ∨ SqT K H p xs) ∧ Q (.int xs.length) H) ∨ ∃ kvs, H p = some (.dK kvs) ∧ Q (.int kvs.length) H
  | _ => False
theorem call_lenM : CallR X (.builtin "len") (lenM X.K) := cwk (CallR.or call_len_str (CallR.or call_len_seq call_lenD)) fun xs H Q q => by
  unfold lenM at q
  split at q
  · exact .inl ⟨_, rfl, q.1, q.2⟩
  · rcases q with ⟨xs, h, q⟩ | ⟨kvs, h, q⟩
    · exact .inr (.inl ⟨_, xs, rfl, h, q⟩)
    · exact .inr (.inr ⟨_, kvs, rfl, h, q⟩)
  · exact q.elim

/-! ### the same, the written part named -/
theorem addK (K : PySem.W.Frag) (h : X.K = K := by rfl) : OpR X (binaryOp .Add) (addM K) := h ▸ op_addM
theorem eqK (K : PySem.W.Frag) (hu : X.A.units + 64 < cLine) (h : X.K = K := by rfl) : OpR X (compareOp .Eq) (eqM K) := h ▸ op_eqM hu
theorem neK (K : PySem.W.Frag) (hu : X.A.units + 64 < cLine) (h : X.K = K := by rfl) : OpR X (compareOp .NotEq) (neM K) := h ▸ op_neM hu
theorem inK (K : PySem.W.Frag) (h : X.K = K := by rfl) : OpR X (compareOp .In) (inM K false) := h ▸ op_inM
theorem notInK (K : PySem.W.Frag) (h : X.K = K := by rfl) : OpR X (compareOp .NotIn) (inM K true) := h ▸ op_notInM
theorem pt_t (K : PySem.W.Frag) (ha : PE X a ta) (he : ∀ whole, isTrue a X.env whole = (do let v ← whole; standAt a.pos; holding [v] (truthy v)) := by intro _; rfl) (h : X.K = K := by rfl) : PT X a (tTr K ta) := h ▸ pt_tr ha he
theorem e_x (K : PySem.W.Frag) (ha : PE X a ta) (hb : PE X b tb) (hs : PlainIx b := by intro _ _; rfl) (h : X.K = K := by rfl) : PE X (.Subscript a b pos) (tOp (ixM K) ta tb) := h ▸ e_ix ha hb hs
theorem slK (K : PySem.W.Frag) (h : X.K = K := by rfl) : SlR X (slM K) := h ▸ sl_M
theorem lenK (K : PySem.W.Frag) (h : X.K = K := by rfl) : CallR X (.builtin "len") (lenM K) := h ▸ call_lenM
theorem listK (K : PySem.W.Frag) (h : X.K = K := by rfl) : CallR X (.type "list") (fun xs H Q => ∃ p ys, xs = [.ref p] ∧ (SqL K H p ys ∨ SqT K H p ys) ∧ ∀ l, H l = none → Q (.ref l) (upd H l (.lst ys))) := h ▸ call_list_of
theorem tupleK (K : PySem.W.Frag) (h : X.K = K := by rfl) : CallR X (.type "tuple") (fun xs H Q => ∃ p ys, xs = [.ref p] ∧ ((SqL K H p ys ∧ ∀ l, H l = none → Q (.ref l) (upd H l (.tup ys))) ∨ (SqT K H p ys ∧ Q (.ref p) H))) := h ▸ call_tuple_of
theorem isiK (K : PySem.W.Frag) (h : X.K = K := by rfl) : CallR X (.builtin "isinstance") (rIsi K) := h ▸ call_isi
theorem allK (K : PySem.W.Frag) (hc : X.calm = true) (h : X.K = K := by rfl) : CallR X (.builtin "all") (rAll K) := h ▸ cr_all hc
theorem anyK (K : PySem.W.Frag) (hc : X.calm = true) (h : X.K = K := by rfl) : CallR X (.builtin "any") (rAny K) := h ▸ cr_any hc
theorem sortedK (K : PySem.W.Frag) (h : X.K = K := by rfl) : CallR X (.builtin "sorted") (rSorted K) := h ▸ cr_sorted
theorem sumK (K : PySem.W.Frag) (hc : X.calm = true) (h : X.K = K := by rfl) : CallR X (.builtin "sum") (rSum K) := h ▸ cr_sum hc

/-! ### calls of own defs -/
structure Cal (P : Program) (w : World) (K : PySem.W.Frag) (mg : Str → Option Value) (base : Heap) (CX : CXT) (k : Nat) (x : Str) (f : Addr) (fd : FuncData) (ps : List Str) (sp : Sp) : Prop where
  G : FnOk P w K mg base CX k f fd ps sp
  b : Binds K fd ps []
  kp : PySem.W.keepIn K (.ref f) = true
  m : mg x = some (.ref f)
end
end El

set_option Elab.async false
set_option linter.all false
set_option maxRecDepth 100000
set_option maxHeartbeats 4000000
/-! Own words: an own exception's first row super().__init__(e), the rest of its __init__ by the layer. -/
namespace El
open PySem PySem.Spec PyProof.Rows L2 NdefX
abbrev supRow (p0 p1 p2 p3 p4 : Pos) (e1 : Expr) : Stmt := .Expr (.Call (.Attribute (.Call (.Name "super" p0) [] [] p1) "__init__" p2) [e1] [] p3) p4
abbrev supNF (name qual : Str) (params : Arguments) (body : List Stmt) (scope : Scope) (cc cda : Addr) : NF := ⟨name, qual, params, body, scope, [("__class__", cc)], cda⟩

theorem inv_unpin {X : Cx} {pins : List (Addr × Obj)} {σ : L2.St} {H : Hp} {s : Shared} (I : Inv X pins σ H s) : Inv X [] σ H s := I.pins_of fun p hp => absurd hp (by simp)

theorem fn_super {P : Program} {w : World} {K : PySem.W.Frag} {mg : Str → Option Value} {base : Heap} {CX : CXT} {k : Nat} {f cc cda D : Addr} {name qual : Str} {params : Arguments} {scope : Scope} {doc pm ct oc ccl cl : Value} {od cdd cld : Option Addr} {osl ccs csl : Array (Option Value)} {vs0 : Array Value} {file : Str} {tf : Tok} {cdD : ClassData}
    {N ps : List Str} {sp : Sp} {e1 : Expr} {rest : List Stmt} {p0 p1 p2 p3 p4 : Pos} {ar : Arg}
    (lk : K.lookup f = some ⟨oc, od, .func (PySem.W.fnX name qual params (supRow p0 p1 p2 p3 p4 e1 :: rest) scope [("__class__", cc)] .none .none doc pm none (.ref cda) ct), osl⟩)
    (hcd : PySem.W.codeIn K (.ref cda) qual = true) (S : NScope N ps ["__class__"] scope)
    (hcode : K.lookup cda = some ⟨ccl, cdd, .fields vs0, ccs⟩) (hvs : vs0[2]? = some (.str file tf)) (hfile : ((P.main.file : Str) == file) = true)
    (hcell : K.lookup cc = some ⟨cl, cld, .cell (some (.ref D)), csl⟩) (hD : PySem.W.clsIn K D = some cdD) (hsuper : mg "super" = none)
    (hop : PySem.W.nsIn K PySem.cStatics "thirdparty.any" = some none)
    (hp : (params.posonlyargs ++ params.args).head? = some ar) (hps : ps[0]? = some ar.arg)
    (hks : scope.names.lookup ("super" : Str) = some .globalImplicit) (htop : (P.main.scope.names.lookup ("super" : Str)).isSome = false)
    (hboot : bootBuiltins "super" = some (.type "super"))
    (len : ∀ vs H Q E, sp vs H Q E → vs.length = ps.length)
    (hbody : ∀ (A : Around) (outer : List Env) (s : Shared) (H : Hp) (vs : List V) (Q : VK) (E : XK), Room k (A.deeper (envF (supNF name qual params (supRow p0 p1 p2 p3 p4 e1 :: rest) scope cc cda) f s.heap.objs.size)) → sp vs H Q E →
      ∃ (a C : Addr) (ta : TA) (t : TS), vs[0]? = some (.ref a) ∧ H a = some (exo a C none) ∧ OexC K C ∧ PySem.W.mroIn K C (.ref D) = some true ∧ PySem.W.ks_superIn K C D "__init__" = some (some (.builtin "ValueError.__init__")) ∧ PySem.W.subIn K (.ref C) (.type "ValueError") = some true ∧
        PA (ncx CX P w K mg base N (supNF name qual params (supRow p0 p1 p2 p3 p4 e1 :: rest) scope cc cda) f A outer s H E) [e1] ta ∧
        PSs (ncx CX P w K mg base N (supNF name qual params (supRow p0 p1 p2 p3 p4 e1 :: rest) scope cc cda) f A outer s H E) rest t ∧
        ta (startF N vs [none]) H fun ws H1 => H1 a = some (exo a C none) ∧ ws.length ≤ 1000 ∧ t { nx := fun _ H' => Q .non H', rt := Q } (startF N vs [none]) H1)
    (hst : ∀ env : Env, starEach [e1] env = (false, eval e1 env) :: starEach [] env) {pl : Env → Sem Bool}
    (he : ∀ env : Env, eval (.Call (.Attribute (.Call (.Name "super" p0) [] [] p1) "__init__" p2) [e1] [] p3) env = (do
      let ov ← attributeBase (.Call (.Name "super" p0) [] [] p1) "__init__" env (eval (.Call (.Name "super" p0) [] [] p1) env)
      standAt p2.atName
      let (f, first) ← holding [ov] (getMethod ov "__init__" (pl env))
      callWith p3 f first (backTo p3 (starEach [e1] env)) []))
    (hsw : ∀ env : Env, swapsWith (.Call (.Attribute (.Call (.Name "super" p0) [] [] p1) "__init__" p2) [e1] [] p3) none p4.line env = pure false) :
    FnOk P w K mg base CX (k + 1) f (PySem.W.fnX name qual params (supRow p0 p1 p2 p3 p4 e1 :: rest) scope [("__class__", cc)] .none .none doc pm none (.ref cda) ct) ps sp := by
  refine ⟨len, fun A outer s H args us vs Q E hr e0 hb r hsp => ?_⟩
  have hl := len _ _ _ _ hsp
  have KX : K.In s.heap := e0.mod.kin.keeps fun b o e => (e0.bs b o e).1
  have lim : s.heap.NoLimit := e0.mod.nolimit.keeps fun b o e => (e0.bs b o e).1
  have hkc : scope.names.lookup ("__class__" : Str) = some .free := S.frk _ (List.mem_singleton.mpr rfl)
  refine PySem.ks_codeAny_call_defAt (fd := PySem.W.fnX name qual params (supRow p0 p1 p2 p3 p4 e1 :: rest) scope [("__class__", cc)] .none .none doc pm none (.ref cda) ct) (body := supRow p0 p1 p2 p3 p4 e1 :: rest) (binds := ps.zip us) hr.depth (KX _ _ lk) rfl lim
    (PySem.W.codeRec_of KX hcd) rfl hb S.nocell (fun ⟨n, _⟩ hy => S.par n (List.of_mem_zip hy).1) (fun h₁ hns kp => ?_) S.co S.gen S.kind
  obtain ⟨a, C, ta, t, hv0, hexo, TC, hmro, hsup, hsubV, hPA, hPS, hq⟩ := hbody A outer s H vs Q E (hr.deeper _) hsp
  have bcc : base.get? cc = some ⟨cl, cld, .cell (some (.ref D)), csl⟩ := e0.mod.kin _ _ hcell
  have CC : CellsAt [(("__class__" : Str), cc)] ["__class__"] [none] s.heap H := by
    refine ⟨rfl, fun y c e => ?_, fun x y c e1 e2 => ?_, fun i y hi => ?_⟩
    · have : c = cc := by
        simp only [List.lookup] at e
        split at e
        · exact (Option.some.inj e).symm
        · cases e
      subst this
      exact ⟨(e0.bs _ _ bcc).2, _, _, KX _ _ hcell, rfl⟩
    · simp only [List.lookup] at e1 e2
      split at e1
      · rename_i h1
        split at e2
        · rename_i h2
          rw [beq_iff_eq] at h1 h2
          rw [h1, h2]
        · cases e2
      · cases e1
    · have : i = 0 ∧ y = "__class__" := by
        cases i with
        | zero => simp at hi; exact ⟨rfl, hi.symm⟩
        | succ i => simp at hi
      obtain ⟨rfl, rfl⟩ := this
      exact ⟨cc, by simp [List.lookup], fun v hv => by simp at hv⟩
  have I : Inv (ncx CX P w K mg base N (supNF name qual params (supRow p0 p1 p2 p3 p4 e1 :: rest) scope cc cda) f A outer s H E) [] (startF N vs [none]) H { s with heap := h₁, toks := s.toks + (ps.zip us).length } :=
    inv_startN (F := supNF name qual params (supRow p0 p1 p2 p3 p4 e1 :: rest) scope cc cda) S hr.hd e0 hl r CC hns kp
  have KX1 : K.In h₁ := fun b o e => kp b o (KX b o e)
  obtain ⟨oD, hD1, hD2⟩ : ∃ oD, h₁.get? D = some oD ∧ oD.data = .cls cdD := by
    unfold PySem.W.clsIn at hD
    split at hD
    · rename_i c d cd' sl ho
      cases hD
      exact ⟨_, KX1 _ _ ho, rfl⟩
    · cases hD
  have ndP : ps.Nodup := by
    have q := S.nd.sublist (List.take_sublist (ps.length + 1) N)
    rw [show N.take (ps.length + 1) = ps ++ [("__class__" : Str)] from S.pre] at q
    exact (List.nodup_append.mp q).1
  obtain ⟨u0, hu0, ru0⟩ := r.get hv0
  obtain rfl : u0 = Value.ref a := ru0
  obtain ⟨t1, hga⟩ := exo_at I.hok hexo
  have hint : interactive (envF (supNF name qual params (supRow p0 p1 p2 p3 p4 e1 :: rest) scope cc cda) f s.heap.objs.size) = false := by
    have hk := S.kind
    unfold interactive
    simp [Env.blockKind, hk]
  refine PySem.ks_wpAt_execs_cons (PySem.ks_wpAt_Expr_any (PySem.ks_wpAt_MethodCall (PySem.ks_wpAt_super_base (ar := ar) hks hkc (by decide +kernel) rfl (KX1 _ _ lk) rfl hp rfl (KX1 _ _ hcode) rfl hvs hfile htop ?_) (he _)) hint (hsw _))
  obtain ⟨mb, hb1, hb2⟩ := e0.mod.blt
  have kb : ∀ b o, base.get? b = some o → h₁.get? b = some o := fun b o e => kp b o (e0.bs b o e).1
  refine PySem.W.ks_loadName_global S.kind hks (Calls.loadGlobal_builtin (e0.mod.glob.keeps kb) hsuper (hb1.keeps kb) ((hb2 _ (by decide)).trans hboot) ⟨rfl, ?_⟩)
  refine wpAny_loadName_free S.kind hkc rfl ⟨_, KX1 _ _ hcell, rfl⟩ ?_
  refine wpAny_loadName_local S.kind (S.par _ (List.mem_of_getElem? hps)) hns (zip_look ndP hps hu0) ?_
  refine PySem.ks_wpAny_isType_cls hD1 hD2 ⟨rfl, ?_⟩
  refine PySem.ks_wpAny_call_super hD1 hD2 hga rfl (fun c e => by cases e) (PySem.W.looks_mroIn KX1 hmro) (fun h2 eso k2 => ?_)
  have I2 : Inv (ncx CX P w K mg base N (supNF name qual params (supRow p0 p1 p2 p3 p4 e1 :: rest) scope cc cda) f A outer s H E) [] (startF N vs [none]) H { s with heap := h2, toks := s.toks + (ps.zip us).length } := I.kept k2
  have KX2 : K.In h2 := fun b o e => k2 b o (KX1 b o e)
  cases hcC : PySem.W.clsIn K C with
  | none => unfold PySem.W.ks_superIn at hsup; rw [hcC] at hsup; cases hsup
  | some cd =>
  unfold PySem.W.ks_superIn at hsup
  rw [hcC] at hsup
  have hga2 := k2 _ _ hga
  have INS : PySem.W.InstAt h2 a { cls := .ref C, dict := none, data := .fields #[.ref t1, .none, .none, .none, .bool false, .none] } C none := ⟨hga2, rfl, rfl, trivial⟩
  have hI : PySem.W.Looks (model P w) h2 (isInstance (.ref a) (.type "ValueError")) true := INS.type.andThen (PySem.W.looks_subIn KX2 hsubV)
  refine PySem.W.kxs_getMethod PySem.W.kxs_ValueError eso (PySem.W.looks_opaque KX2 hop) (l₀ := cd.mro) (fun A Q E s k q => wpAny_bind ((PySem.W.looks_clsIn KX2 hcC) A _ E s k (wpAny_pure q))) rfl KX2 hsup hI (PySem.W.ks_ne KX2 INS hcC) (by decide +kernel) ?_
  have I3 : Inv (ncx CX P w K mg base N (supNF name qual params (supRow p0 p1 p2 p3 p4 e1 :: rest) scope cc cda) f A outer s H E) [] (startF N vs [none]) H { s with heap := h2.push (PySem.W.kxs_mw "ValueError.__init__" a), toks := s.toks + (ps.zip us).length + 1 } := I2.kept fun b o e => Heap.get?_push_of_some _ e
  have hu : (h2.push (PySem.W.kxs_mw "ValueError.__init__" a)).get? h2.objs.size = some (PySem.W.kxs_mw "ValueError.__init__" a) := Heap.get?_push_at rfl rfl
  have hfree : H h2.objs.size = none := I2.hok.fresh (Nat.le_refl _)
  have I4 : Inv (ncx CX P w K mg base N (supNF name qual params (supRow p0 p1 p2 p3 p4 e1 :: rest) scope cc cda) f A outer s H E) [(h2.objs.size, PySem.W.kxs_mw "ValueError.__init__" a)] (startF N vs [none]) H { s with heap := h2.push (PySem.W.kxs_mw "ValueError.__init__" a), toks := s.toks + (ps.zip us).length + 1 } :=
    I3.pins_of fun p hp => by
      obtain rfl := List.mem_singleton.mp hp
      exact ⟨hu, hfree, fun z => absurd I2.lt (by rw [← z]; exact Nat.lt_irrefl _), I2.nofs (Nat.le_refl _), fun v z => by cases z⟩
  show wpAny _ _ (callWith p3 (.ref h2.objs.size) [] (backTo p3 (starEach [e1] _)) []) _ _ _
  rw [hst]
  refine PySem.W.kxs_callWith (i := "ValueError.__init__") (x := a) rfl (Calls.evalArgs_plain ?_)
  have hrun := hPA.run p3 _ _ _ _ _ I4 hq
  rw [hst] at hrun
  refine thn hrun fun us' s4 ⟨ws, H1, I5, r5, hexo1, hws, hq1⟩ => ?_
  have hu5 : s4.heap.get? h2.objs.size = some (PySem.W.kxs_mw "ValueError.__init__" a) := (I5.pin (h2.objs.size, PySem.W.kxs_mw "ValueError.__init__" a) (List.mem_append_right _ (List.mem_singleton.mpr rfl))).1
  refine ⟨hu5, ?_⟩
  obtain ⟨nm, q9, N9, bs, bm, sn, sub, ab, col, dd, k0, k1, k2', k3, k5, hC, hbm⟩ := TC.cls
  obtain ⟨t2, hga5⟩ := exo_at I5.hok hexo1
  have hC5 := I5.kIn _ _ hC
  have hus : us'.length ≤ sizeLine := by
    rw [← Paired.length r5, sizeLine_eq]
    omega
  obtain ⟨h5, g5, d5, tk5, os5⟩ := s4
  show wpAny _ _ (call (.ref h2.objs.size) ([] ++ us')) _ _ _
  rw [List.nil_append]
  refine wpAny_call (codeAny_of_tree ?_)
  show wpAny _ _ (callAny (.ref h2.objs.size) ⟨us', []⟩) _ _ _
  simp only [callAny]
  refine wpAny_bind (wpAny_load hu5 ?_)
  simp only [PySem.W.kxs_mw, show (Value.type "method-wrapper" == Value.type "method" || Value.type "method-wrapper" == Value.type "builtin_function_or_method" || Value.type "method-wrapper" == Value.type "method-wrapper") = true by decide, if_true]
  refine PySem.W.KFB.if_so (by decide) ?_
  refine wpAny_bind (PySem.W.check_bound_init PySem.F.excBase_ValueError.toExcCallFacts hC5 hga5 rfl ?_)
  refine wpAny_bind (wpAny_pure (wpAny_pure ?_))
  refine ⟨plainId_quiet PySem.F.excBase_ValueError.init.plain _, codeAny_builtin PySem.F.excBase_ValueError.initEntry ?_⟩
  refine PySem.W.exc_init_tree (cls := .ref C) (t0 := t2) (dv := none) (c2 := .none) (c3 := .none) (b4 := .bool false) hga5 hus (fun h6 k6 e6 _ => ?_)
  have J := I5.write (t' := tk5) (x := a) (e := a) (o := exo a C none) (by rw [hexo1]; exact True.intro) (.inl rfl) k6 ⟨_, e6⟩ (exo_ok e6)
  have eu : upd H1 a (exo a C none) = H1 := by
    funext b
    by_cases hb : b = a
    · rw [hb, upd_same, hexo1]
    · rw [upd_ne hb]
  rw [eu] at J
  have J0 := inv_unpin J
  refine wpAt_of_wpAny ?_
  refine wpAny_mono (hPS.run [] _ _ H1 _ J0 hq1) (fun fl s' hs => ?_) fun e s' hs => hs
  have fin : ∀ {σ' : L2.St} {H' : Hp} {v : V} {u : Value}, Inv (ncx CX P w K mg base N (supNF name qual params (supRow p0 p1 p2 p3 p4 e1 :: rest) scope cc cda) f A outer s H E) [] σ' H' s' → L2.RelV v u → Q v H' → CE outer P w H s Q u s' :=
    fun {σ' H' v u} J rv q => ⟨v, H', J.os, J.bare, J.base, J.hok, rv, q⟩
  cases fl with
  | ret u =>
    obtain ⟨v, σ', H', J, rv, q⟩ := hs
    exact fin J rv q
  | next =>
    obtain ⟨σ', H', J, q⟩ := hs
    exact fin (v := V.non) (u := Value.none) J rfl q
  | brk =>
    obtain ⟨_, _, _, q⟩ := hs
    exact False.elim q
  | cont =>
    obtain ⟨_, _, _, q⟩ := hs
    exact False.elim q
end El

set_option Elab.async false
set_option linter.all false
set_option maxRecDepth 100000
set_option maxHeartbeats 4000000
/-! Own words: what the written part says of an own exception class, isinstance of what an except clause holds. -/
namespace El
open PySem PySem.Spec PyProof.Rows L2 NdefX
/-- isinstance(e, c), e the exception that the suite holds, with a dict -/
def rIsX (K : PySem.W.Frag) (cls : Value) (d : Option Addr) (a : Addr) : List V → Hp → VK → Prop := fun xs H Q => ∃ (D dd : Addr) (fs : List (Str × V)) (c : V) (cv : Value) (b : Bool), xs = [.ref a, c] ∧ cls = .ref D ∧ d = some dd ∧ H dd = some (.xd fs) ∧ ExcC K D ∧ (∀ u, RelV c u → u = cv) ∧ PySem.W.kitOne K (.ref D) cv = some b ∧ Q (.bl b) H
theorem call_isX {X : Cx} {a : Addr} {oe : Obj} {cls : Value} {d : Option Addr} {pn : List (Addr × Obj)} (hz : Zc cls d oe) (hf : ∃ vs, oe.data = .fields vs) : CallR (X.suite a ((a, oe) :: pn)) (.builtin "isinstance") (rIsX X.K cls d a) := by
  intro pins s σ H xs us Q I r h
  obtain ⟨D, dd, fs, c, cv, b, rfl, rfl, rfl, ea, C, hcv, e, q⟩ := h
  cases r with
  | cons rx rr =>
    cases rr with
    | cons rt rr =>
      cases rr
      cases rx
      have ec := hcv _ rt
      subst ec
      obtain ⟨hget, _⟩ := I.pin (a, oe) (List.mem_append.mpr (.inl List.mem_cons_self))
      obtain ⟨vs, hv⟩ := hf
      have hx : ObjOk X.prog X.w H s.heap dd (.xd fs) := I.hok dd _ ea
      obtain ⟨mA, hns, hr⟩ := hx
      obtain ⟨od, ho, hl⟩ := lookIn_ns hns
      have J : PySem.W.InstAt s.heap a oe D (some od) := ⟨hget, hz.1, by unfold PySem.W.notCls; rw [hv] <;> rfl, by rw [hz.2]; exact ho⟩
      obtain ⟨cdD, hcD, _⟩ := PySem.W.any_some C.hd
      exact PySem.W.kia_one (PySem.W.kitx_exc (by rw [hcD]; rfl) C.hg C.hk C.hs C.ha C.hn C.ht C.hm) I.kIn J e (fun z => nomatch z) fun tk => ⟨.bl b, H, I.kept (t' := tk) fun _ _ z => z, rfl, q⟩
/-- an own exception class with its own __init__ -/
structure ExK (K : PySem.W.Frag) (C fI : Addr) (fields : List Str) : Prop where
  oex : OexC K C
  sup : PySem.W.ks_superIn K C C "__init__" = some (some (.builtin "ValueError.__init__"))
  subV : PySem.W.subIn K (.ref C) (.type "ValueError") = some true
  mro : PySem.W.mroIn K C (.ref C) = some true
  iC : PySem.W.findIn K (.ref C) "__init__" = some (some (.ref fI))
  tI : PySem.W.typeIn K (.ref fI) = some (.type "function")
  no : ∀ f ∈ fields, PySem.W.findIn K (.ref C) f = some none
  xf : XfC K C
  is : ExcC K C
/-- what a suite that catches it must know -/
structure ExV (K : PySem.W.Frag) (C : Addr) (fields : List Str) : Prop where
  no : ∀ f ∈ fields, PySem.W.findIn K (.ref C) f = some none
  xf : XfC K C
  is : ExcC K C
/-- the i-th def of the class body -/
def mthS (s : Stmt) (i : Nat) : Stmt := match s with
  | .ClassDef _ _ _ b _ _ _ _ _ _ _ => b.getD i (.Pass ⟨0, 0, 0, 0⟩)
  | _ => .Pass ⟨0, 0, 0, 0⟩
/-- the same, from what the written part answers -/
theorem exk_mk {K : PySem.W.Frag} {C fI N : Addr} {fields : List Str} {nm q : Str} {bs bm : List Value} {sn : List Str} {sub : List Value} {ab : Bool} {col : Option Bool} {dd : Option Addr} {k0 k1 k2 k3 k5 : Option Value}
    (cls : K.lookup C = some (excClassObj nm q C N bs bm true sn sub ab col dd k0 k1 k2 k3 k5 "ValueError.__new__")) (ref : PySem.HandSPX.refsVE bm = true)
    (sa : PySem.W.findIn K (.ref C) "__setattr__" = some (some (.builtin "object.__setattr__"))) (exC : PySem.W.subIn K (.ref C) (.type "BaseException") = some true) (tyC : PySem.W.typeIn K (.ref C) = some (.type "type")) (kC : PySem.W.keepIn K (.ref C) = true)
    (sup : PySem.W.ks_superIn K C C "__init__" = some (some (.builtin "ValueError.__init__"))) (subV : PySem.W.subIn K (.ref C) (.type "ValueError") = some true) (mro : PySem.W.mroIn K C (.ref C) = some true)
    (iC : PySem.W.findIn K (.ref C) "__init__" = some (some (.ref fI))) (tI : PySem.W.typeIn K (.ref fI) = some (.type "function")) (no : ∀ f ∈ fields, PySem.W.findIn K (.ref C) f = some none)
    (ga : PySem.W.findIn K (.ref C) "__getattribute__" = some (some (.builtin "BaseException.__getattribute__"))) (gg : PySem.W.findIn K (.ref C) "__getattr__" = some none) (hd : PySem.W.hasDictIn K C = true)
    (hcl : PySem.W.findIn K (.ref C) "__class__" = some (some (.builtin "object.__class__"))) (hn : PySem.W.specialIn K (.builtin "object.__class__") "__get__" = some (some (.builtin "getset_descriptor.__get__"))) (ht : PySem.W.takesIn K (.builtin "object.__class__") = some true) (hm : PySem.W.mroIn K C (.type "object") = some true) : ExK K C fI fields :=
  ⟨⟨⟨nm, q, N, bs, bm, sn, sub, ab, col, dd, k0, k1, k2, k3, k5, cls, ref⟩, sa, exC, tyC, kC⟩, sup, subV, mro, iC, tI, no, ⟨ga, gg, exC, hd⟩, ⟨ga, gg, exC, hd, hcl, hn, ht, hm⟩⟩

/-! ### an own exception's __init__, by what it keeps -/
def spE (C : Addr) (ok : List V → Prop) (fs : List V → List (Str × V)) : Sp := fun vs H Q _ => ∃ (a : Addr) (ws : List V), vs = .ref a :: ws ∧ ok ws ∧ H a = some (exo a C none) ∧
  ∀ (dx : Addr) (H' : Hp), H dx = none → dx ≠ a → H' a = some (exo a C (some dx)) → H' dx = some (exd dx (fs ws)) → (∀ b, b ≠ a → b ≠ dx → H' b = H b) → Q .non H'
theorem mk_spE {C : Addr} {ok : List V → Prop} {fs : List V → List (Str × V)} {vs : List V} {H1 : Hp} {Q : XK} (hl : vs.length ≤ 1000) (ho : ok vs) (hq : ∀ d, H1 d = none → Q (.ref C) (some d) (upd H1 d (.xd (fs vs)))) :
    vs.length ≤ 1000 ∧ ∀ a, H1 a = none → spE C ok fs (.ref a :: (vs ++ [])) (upd H1 a (exo a C none))
      (fun v H2 => v = .non ∧ ∃ (d : Addr) (fs : List (Str × V)), H2 a = some (exo a C (some d)) ∧ H2 d = some (exd d fs) ∧ H1 d = none ∧ Q (.ref C) (some d) (upd (del H2 a) d (.xd fs))) (fun _ _ _ => False) := by
  refine ⟨hl, fun a na => ⟨a, vs, by rw [List.append_nil], ho, upd_same, fun dx H' n ne e1 e2 hh => ⟨rfl, dx, fs vs, e1, e2, ?_, ?_⟩⟩⟩
  · rw [upd_ne ne] at n
    exact n
  · have nd : H1 dx = none := by rw [upd_ne ne] at n; exact n
    have e : upd (del H' a) dx (.xd (fs vs)) = upd H1 dx (.xd (fs vs)) := by
      funext b
      by_cases hb : b = dx
      · rw [hb, upd_same, upd_same]
      · rw [upd_ne hb, upd_ne hb]
        by_cases ha : b = a
        · rw [ha, del_same, na]
        · rw [del_ne ha, hh b ha hb, upd_ne ha]
    rw [e]
    exact hq dx nd
/-- the class, its __init__, ready for a raise -/
structure CalE (P : Program) (w : World) (K : PySem.W.Frag) (mg : Str → Option Value) (base : Heap) (k : Nat) (x : Str) (C f : Addr) (fd : FuncData) (ps : List Str) (ok : List V → Prop) (fs : List V → List (Str × V)) (fields : List Str) : Prop where
  G : FnOk P w K mg base CX0 k f fd ps (spE C ok fs)
  b : Binds K fd ps []
  X : ExK K C f fields
  m : mg x = some (.ref C)
/-- one store, the dict being new -/
theorem ost1 {a C : Addr} {H : Hp} {f : Str} {y : V} {Q : Hp → Prop} (ea : H a = some (exo a C none)) (q : ∀ dx H', H dx = none → dx ≠ a → H' a = some (exo a C (some dx)) → H' dx = some (exd dx [(f, y)]) → (∀ b, b ≠ a → b ≠ dx → H' b = H b) → Q H') :
    ∀ dx, H dx = none → dx ≠ a → Q (upd (upd H dx (exd dx [(f, y)])) a (exo a C (some dx))) := fun dx n ne =>
  q dx _ n ne upd_same (by rw [upd_ne ne, upd_same]) fun b h1 h2 => by rw [upd_ne h1, upd_ne h2]
end El

set_option Elab.async false
set_option linter.all false
set_option maxRecDepth 100000
/-! Own words: a text times an int, the text of an int. -/
namespace El
open PySem PySem.Spec PyProof.Rows L2
def repS (z : Str) (k : Int) : Str := if k < 1 then Str.empty else if (k == 1 || z.length == 0) = true then z else ⟨(List.replicate k.toNat z.cps).foldl (· ++ ·) #[]⟩
theorem foldl_cps : ∀ (n : Nat) (a b : Array Nat), ((List.replicate n b).foldl (· ++ ·) a).toList = a.toList ++ (List.replicate n b.toList).flatten
  | 0, a, b => by simp
  | n + 1, a, b => by
    rw [List.replicate_succ, List.foldl_cons, foldl_cps n, Array.toList_append, List.replicate_succ, List.flatten_cons, List.append_assoc]
theorem repS_cps (z : Str) (k : Int) : (repS z k).cps.toList = (List.replicate k.toNat z.cps.toList).flatten := by
  unfold repS
  split
  · rename_i h
    rw [show k.toNat = 0 by omega]
    rfl
  · split
    · rename_i h1 h
      rw [Bool.or_eq_true, beq_iff_eq, beq_iff_eq] at h
      rcases h with h | h
      · subst h
        simp
      · have : z.cps.toList = [] := List.eq_nil_of_length_eq_zero (by rw [Array.length_toList]; exact h)
        rw [this]
        simp
    · rw [foldl_cps]
      rfl
theorem repS1 {c : Nat} {k : Int} : (repS ⟨#[c]⟩ k).cps.toList = List.replicate k.toNat c := by
  rw [repS_cps]
  simp
theorem op_mulS {X : Cx} : OpR X (binaryOp .Mult) (fun x y H Q => ∃ (z : Str) (k : Int), x = .str z ∧ y = .int k ∧ k ≤ 1000 ∧ -1000 ≤ k ∧ z.length ≤ 1000 ∧ Q (.str (repS z k)) H) := by
  intro pins s σ H x y v u Q I rx ry h
  obtain ⟨z, k, rfl, rfl, h1, h2, h3, q⟩ := h
  obtain ⟨t, rfl⟩ := rx
  obtain ⟨t', rfl⟩ := ry
  have e : (2 : Int) ^ 63 = 9223372036854775808 := by decide
  refine PySem.P.mul_str ?_ (fun n1 n2 => ?_) (fun n1 n2 => ?_) ?_
  · rw [e, decide_eq_false (by omega), decide_eq_false (by omega)]
    rfl
  · rw [e]
    have : ((9223372036854775808 : Int) - 1) / 1000 ≤ (9223372036854775808 - 1) / k := by
      refine Int.le_ediv_of_mul_le (by omega) ?_
      have : (9223372036854775808 - 1) / 1000 * k ≤ (9223372036854775808 - 1) / 1000 * 1000 := Int.mul_le_mul_of_nonneg_left h1 (by decide)
      refine Int.le_trans this (by decide)
    have : (1000 : Int) ≤ (9223372036854775808 - 1) / 1000 := by decide
    omega
  · have : z.length * k.toNat ≤ 1000 * 1000 := Nat.mul_le_mul h3 (by omega)
    show decide _ = false
    refine decide_eq_false ?_
    rw [sizeLine_eq]
    omega
  · unfold repS at q
    split
    · rename_i c
      rw [if_pos c] at q
      exact ⟨by decide, .str _, H, I.tok _, ⟨_, rfl⟩, q⟩
    · rename_i c
      rw [if_neg c] at q
      split
      · rename_i c2
        rw [if_pos c2] at q
        exact ⟨.str _, H, I, ⟨_, rfl⟩, q⟩
      · rename_i c2
        rw [if_neg c2] at q
        refine ⟨?_, .str _, H, I.tok _, ⟨_, rfl⟩, q⟩
        have e2 := foldl_cps k.toNat #[] z.cps
        have e3 : ((List.replicate k.toNat z.cps).foldl (· ++ ·) #[]).size = k.toNat * z.length := by
          rw [← Array.length_toList, e2, List.length_append]
          simp
          rfl
        show ((List.replicate k.toNat z.cps).foldl (· ++ ·) #[]).size ≤ sizeLine
        rw [e3, sizeLine_eq]
        have : k.toNat * z.length ≤ 1000 * 1000 := Nat.mul_le_mul (by omega) h3
        omega
/-- times, of texts too -/
def mulSM : R2 := fun x y H Q => match x, y with
  | .str z, .int k => k ≤ 1000 ∧ -1000 ≤ k ∧ z.length ≤ 1000 ∧ Q (.str (repS z k)) H
  | _, _ => mulM x y H Q
theorem op_mulSM {X : Cx} : OpR X (binaryOp .Mult) mulSM := opwk (OpR.or op_mulS op_mulM) fun x y H Q q => by
  unfold mulSM at q
  split at q
  · exact .inl ⟨_, _, rfl, rfl, q⟩
  · exact .inr q
/-- the signs of a number's text -/
theorem int_digits {i : Int} (h : 0 ≤ i) : ∀ c ∈ ((toString i : String) : Str).cps.toList, 48 ≤ c ∧ c ≤ 57 := by
  intro c hm
  by_cases hk : c ≠ 45 ∧ (c < 48 ∨ 57 < c)
  · exact absurd hm (int_text_free' c hk i)
  · by_cases h45 : c = 45
    · exfalso
      subst h45
      obtain ⟨n, rfl⟩ := Int.eq_ofNat_of_zero_le h
      rw [signs_ofString] at hm
      obtain ⟨ch, hc, e⟩ := List.mem_map.mp hm
      have hd : ch.isDigit = true := by
        have : ch ∈ (Nat.repr n).toList := hc
        exact Nat.isDigit_of_mem_toDigits (b := 10) (n := n) (by decide) (by decide) (by simpa [Nat.repr] using this)
      have := digit_range hd
      omega
    · omega
theorem int_text_ne (i : Int) : ((toString i : String) : Str).cps.toList ≠ [] := by
  rw [signs_ofString]
  intro h
  have h := List.map_eq_nil_iff.mp h
  have nn : ∀ n : Nat, (Nat.repr n).toList ≠ [] := fun n e => by
    have : Nat.toDigits 10 n = [] := by simpa [Nat.repr] using e
    exact Nat.toDigits_ne_nil this
  cases i with
  | ofNat n => exact nn n h
  | negSucc n =>
    have : ("-" ++ Nat.repr (n + 1)).toList = [] := h
    simp at this
end El

set_option Elab.async false
set_option linter.all false
set_option maxRecDepth 100000
set_option maxHeartbeats 4000000
/-! Own words: operators of own classes, static methods. -/
namespace El
open PySem PySem.Spec PyProof.Rows L2
theorem cmpBack_of {X : Cx} {pins : List (Addr × Obj)} {σ : L2.St} {Q : VK} {u : Value} {s' : Shared} (h : EP X pins σ Q u s') : PySem.W.CmpBack (EP X pins σ Q) u s' := by
  obtain ⟨v, H', I, r, q⟩ := id h
  cases v with
  | non => cases (show u = Value.none from r); exact h
  | bl b => cases (show u = Value.bool b from r); exact h
  | int i => obtain ⟨t, e⟩ := (show ∃ t, u = Value.int i t from r); subst e; exact h
  | str i => obtain ⟨t, e⟩ := (show ∃ t, u = Value.str i t from r); subst e; exact h
  | byt i => obtain ⟨t, e⟩ := (show ∃ t, u = Value.bytes i t from r); subst e; exact h
  | flt i => obtain ⟨t, e⟩ := (show ∃ t, u = Value.float i t from r); subst e; exact h
  | ref a => cases (show u = Value.ref a from r); exact h
  | ty n => cases (show u = Value.type n from r); exact h
/-- an own class's method for an operator -/
structure OpC (K : PySem.W.Frag) (C f : Addr) (op : Operator) : Prop where
  sf : PySem.W.selfFirst K C = true
  at_ : PySem.W.findIn K (.ref C) (PySem.dunder op.info.2) = some (some (.ref f))
  fn : PySem.W.isFn K (.ref f) = true
/-- .. with a value of the built-in type T on the right -/
structure OpT (K : PySem.W.Frag) (C f : Addr) (op : Operator) (T : String) : Prop where
  c : OpC K C f op
  hr : ∃ rc, PySem.W.findIn K (.ref C) (PySem.dunderR op.info.2) = some rc ∧ (rc = none ∨ ∃ g : Addr, rc = some (.ref g))
  h1 : ∃ fo, PySem.W.findIn K (.type T) (PySem.dunder op.info.2) = some fo
  h2 : ∃ ro, PySem.W.findIn K (.type T) (PySem.dunderR op.info.2) = some ro
  sub : PySem.W.subIn K (.type T) (.ref C) = some false
structure InvC (K : PySem.W.Frag) (C f : Addr) : Prop where
  at_ : PySem.W.findIn K (.ref C) "__invert__" = some (some (.ref f))
  fn : PySem.W.isFn K (.ref f) = true
section
variable {X : Cx} {CX : CXT} {k : Nat} {C f : Addr} {fd : FuncData} {ps : List Str} {sp : Sp} {E : XK} {op : Operator}
/-- a op b, both of the class at C -/
def rOwn (C : Addr) (sp : Sp) (E : XK) : R2 := fun x y H Q => ∃ a b dx fs dy gs, x = .ref a ∧ y = .ref b ∧ H a = some (.ins C dx fs) ∧ H b = some (.ins C dy gs) ∧ sp [.ref a, .ref b] H Q E
theorem op_own (c : OpC X.K C f op) (F : FnOk X.prog X.w X.K X.mg X.base CX k f fd ps sp) (hr : Room k X.A) (hb : Binds X.K fd ps []) (hx : Passes CX X E) : OpR X (binaryOp op) (rOwn C sp E) := by
  intro pins s σ H x y v u Q I rx ry h
  obtain ⟨a, b, dx, fs, dy, gs, rfl, rfl, ea, eb, q⟩ := h
  obtain rfl : v = Value.ref a := rx
  obtain rfl : u = Value.ref b := ry
  obtain ⟨m, fr⟩ := I.fr
  obtain ⟨mA, O, _⟩ := ins_get I.hok ea
  obtain ⟨od, J, _⟩ := O.look
  obtain ⟨mB, O2, _⟩ := ins_get I.hok eb
  obtain ⟨od2, J2, _⟩ := O2.look
  refine PySem.W.binop_K fr I.ok.mod.kin J J2.type c.sf c.at_ c.fn ?_
  refine wpAny_mono (run_fn (us := [.ref a, .ref b]) (vs := [.ref a, .ref b]) (ds := []) (dvs := []) F hr hb .nil hx I (.cons rfl (.cons rfl .nil)) q) (fun u' s' h' => cmpBack_of h') fun _ _ z => z
/-- a op n, n an int -/
def rOwnI (C : Addr) (sp : Sp) (E : XK) : R2 := fun x y H Q => ∃ a dx fs i, x = .ref a ∧ y = .int i ∧ H a = some (.ins C dx fs) ∧ sp [.ref a, .int i] H Q E
theorem op_ownI (c : OpT X.K C f op "int") (F : FnOk X.prog X.w X.K X.mg X.base CX k f fd ps sp) (hr : Room k X.A) (hb : Binds X.K fd ps []) (hx : Passes CX X E) : OpR X (binaryOp op) (rOwnI C sp E) := by
  intro pins s σ H x y v u Q I rx ry h
  obtain ⟨a, dx, fs, i, rfl, rfl, ea, q⟩ := h
  obtain rfl : v = Value.ref a := rx
  obtain ⟨t, rfl⟩ := ry
  obtain ⟨m, fr⟩ := I.fr
  obtain ⟨mA, O, _⟩ := ins_get I.hok ea
  obtain ⟨od, J, _⟩ := O.look
  obtain ⟨rc, hr1, hr2⟩ := c.hr
  obtain ⟨fo, h1⟩ := c.h1
  obtain ⟨ro, h2⟩ := c.h2
  refine PySem.W.ksp_binT fr I.ok.mod.kin J (T := "int") rfl c.c.sf c.c.at_ c.c.fn hr1 hr2 h1 h2 c.sub ?_
  refine wpAny_mono (run_fn (us := [.ref a, .int i t]) (vs := [.ref a, .int i]) (ds := []) (dvs := []) F hr hb .nil hx I (.cons rfl (.cons ⟨t, rfl⟩ .nil)) q) (fun u' s' h' => cmpBack_of h') fun _ _ z => z
/-- ~a -/
theorem un_own (c : InvC X.K C f) (F : FnOk X.prog X.w X.K X.mg X.base CX k f fd ps sp) (hr : Room k X.A) (hb : Binds X.K fd ps []) (hx : Passes CX X E) : UnR X (unaryOp .Invert) (fun x H Q => ∃ a dx fs, x = .ref a ∧ H a = some (.ins C dx fs) ∧ sp [.ref a] H Q E) := by
  intro pins s σ H x v Q I rx h
  obtain ⟨a, dx, fs, rfl, ea, q⟩ := h
  obtain rfl : v = Value.ref a := rx
  obtain ⟨m, fr⟩ := I.fr
  obtain ⟨mA, O, _⟩ := ins_get I.hok ea
  obtain ⟨od, J, _⟩ := O.look
  exact PySem.W.ksp_inv fr I.ok.mod.kin J c.at_ c.fn (run_fn (us := [.ref a]) (vs := [.ref a]) (ds := []) (dvs := []) F hr hb .nil hx I (.cons rfl .nil) q)
end

section
variable {X : Cx} {CX : CXT} {k : Nat} {C f : Addr} {fd : FuncData} {ps : List Str} {sp : Sp} {E : L2.St → XK} {op : Operator} {a b : Expr} {ta tb : TE} {pos : Pos}
/-- .. what it lets out being taken where it stands -/
def tOwnS (C : Addr) (sp : Sp) (E : L2.St → XK) (ta tb : TE) : TE := fun σ H Q => ta σ H fun x H1 => tb σ H1 fun y H2 => ∃ a b dx fs dy gs, x = .ref a ∧ y = .ref b ∧ H2 a = some (.ins C dx fs) ∧ H2 b = some (.ins C dy gs) ∧ sp [.ref a, .ref b] H2 Q (E σ)
theorem pe_bopS (c : OpC X.K C f op) (F : FnOk X.prog X.w X.K X.mg X.base CX k f fd ps sp) (hr : Room k X.A) (hb : Binds X.K fd ps []) (hx : ∀ σ, PassesAt CX X σ (E σ)) (ha : PE X a ta) (hb2 : PE X b tb) : PE X (.BinOp a op b pos) (tOwnS C sp E ta tb) := by
  refine ⟨fun pins s σ H Q I h => ?_⟩
  refine wpAny_BinOp (thn (ha.run pins s σ H _ I h) fun v s1 ⟨x, H1, I1, rx, q1⟩ => thn (hb2.run pins s1 σ H1 _ I1 q1) fun u s2 ⟨y, H2, I2, ry, a, b, dx, fs, dy, gs, ex, ey, ea, eb, q⟩ => ?_)
  subst ex ey
  obtain rfl : v = Value.ref a := rx
  obtain rfl : u = Value.ref b := ry
  obtain ⟨m, fr⟩ := I2.fr
  obtain ⟨mA, O, _⟩ := ins_get I2.hok ea
  obtain ⟨od, J, _⟩ := O.look
  obtain ⟨mB, O2, _⟩ := ins_get I2.hok eb
  obtain ⟨od2, J2, _⟩ := O2.look
  refine PySem.W.binop_K fr I2.ok.mod.kin J J2.type c.sf c.at_ c.fn ?_
  refine wpAny_mono (run_fnS (us := [.ref a, .ref b]) (vs := [.ref a, .ref b]) F hr hb (hx σ) I2 (.cons rfl (.cons rfl .nil)) q) (fun u' s' h' => cmpBack_of h') fun _ _ z => z
end

/-! ### static methods, by the class's name -/
structure SMet (K : PySem.W.Frag) (C : Addr) (mc : Value) (m : Str) (p g : Addr) : Prop where
  at_ : PySem.W.findCls K (.ref C) mc m = some (.get (.builtin "staticmethod.__get__") (.ref p) .none (.ref C))
  rc : ∃ rest, PySem.W.recIn K p "staticmethod" = some (.ref g :: rest)
  kp : PySem.W.keepIn K (.ref g) = true
section
variable {X : Cx} {CX : CXT} {k : Nat} {C p g : Addr} {mc : Value} {fd : FuncData} {ps : List Str} {sp : Sp} {E : XK} {o e : Expr} {es : List Expr} {m : Str} {pos apos : Pos} {ta : TE} {t : TA} {pl : Sem Bool}
def tSM (C : Addr) (sp : Sp) (E : XK) (ta : TE) (t : TA) : TE := fun σ H Q => ta σ H fun x H1 => x = .ref C ∧ t σ H1 fun vs H2 => sp vs H2 Q E
theorem getsm_ok {pins : List (Addr × Obj)} {σ : L2.St} {H : Hp} {s : Shared} {A : Around} {E : Value → Shared → Prop} {Q : Value × List Value → Shared → Prop} (I : Inv X pins σ H s) (r : ClX.CRead X.K C mc) (c : SMet X.K C mc m p g)
    (h : ∀ s', Inv X pins σ H s' → Q (.ref g, []) s') : wpAny (model X.prog X.w) A (getMethod (.ref C) m pl) Q E s := by
  obtain ⟨rest, hp⟩ := c.rc
  refine PySem.W.method_cls I.kIn r.ga ?_
  refine PySem.W.cls_bind I.kIn r.rd c.at_ ?_
  exact wpAny_call (PySem.W.sm_get (s := { s with toks := s.toks + 1 }) I.kIn hp (PySem.W.handed_on rfl (h _ (I.tok _))))
theorem pe_smeth (he : PE X o ta) (r : ClX.CRead X.K C mc) (c : SMet X.K C mc m p g) (F : FnOk X.prog X.w X.K X.mg X.base CX k g fd ps sp) (hr : Room k X.A) (hb : Binds X.K fd ps []) (hx : Passes CX X E) (ha : PA X (e :: es) t)
    (hst : starEach (e :: es) X.env = (false, eval e X.env) :: starEach es X.env := by rfl) (hpl : (backTo pos (starEach es X.env)).any (·.1) = false := by rfl)
    (ht : eval (.Call (.Attribute o m apos) (e :: es) [] pos) X.env = (do
      let ov ← eval o X.env
      standAt apos.atName
      let (f, first) ← holding [ov] (getMethod ov m pl)
      callWith pos f first (backTo pos (starEach (e :: es) X.env)) (backToKw pos (keywordEach [] X.env))) := by rfl) :
    PE X (.Call (.Attribute o m apos) (e :: es) [] pos) (tSM C sp E ta t) := by
  refine ⟨fun pins s σ H Q I h => ?_⟩
  refine PySem.W.methodCall_KW (pl := pl) (thn (he.run pins s σ H _ I h) fun u s1 ⟨x, H1, I1, rx, ex, q⟩ => ?_) ht
  subst ex
  obtain rfl : u = Value.ref C := rx
  refine getsm_ok I1 r c fun s2 I2 => ?_
  refine PySem.W.callWith_K (h₀ := X.base) I2.ok.mod.kin c.kp (thn (ha.run pos pins s2 σ H1 _ I2 q) fun us s3 ⟨vs, H2, I3, rv, q2⟩ => ⟨I3.kIn, ?_⟩) hst hpl
  have hl : sp (vs ++ []) H2 Q E := by rw [List.append_nil]; exact q2
  exact run_fn (ds := []) (dvs := []) F hr hb .nil hx I3 rv hl
theorem pe_smeth0 (he : PE X o ta) (r : ClX.CRead X.K C mc) (c : SMet X.K C mc m p g) (F : FnOk X.prog X.w X.K X.mg X.base CX k g fd ps sp) (hr : Room k X.A) (hb : Binds X.K fd ps []) (hx : Passes CX X E)
    (ht : eval (.Call (.Attribute o m apos) [] [] pos) X.env = (do
      let ov ← eval o X.env
      standAt apos.atName
      let (f, first) ← holding [ov] (getMethod ov m pl)
      callWith pos f first (backTo pos (starEach [] X.env)) (backToKw pos (keywordEach [] X.env))) := by rfl) :
    PE X (.Call (.Attribute o m apos) [] [] pos) (tSM C sp E ta tNil) := by
  refine ⟨fun pins s σ H Q I h => ?_⟩
  refine PySem.W.methodCall_KW (pl := pl) (thn (he.run pins s σ H _ I h) fun u s1 ⟨x, H1, I1, rx, ex, q⟩ => ?_) ht
  subst ex
  obtain rfl : u = Value.ref C := rx
  refine getsm_ok I1 r c fun s2 I2 => ?_
  exact PySem.W.callWith_K0 I2.kIn c.kp (run_fn (us := []) (vs := []) (ds := []) (dvs := []) F hr hb .nil hx I2 .nil q)
end

/-! ### defs of own classes, ready to be called -/
structure CalB (P : Program) (w : World) (K : PySem.W.Frag) (mg : Str → Option Value) (base : Heap) (CX : CXT) (k : Nat) (f : Addr) (fd : FuncData) (ps : List Str) (sp : Sp) : Prop where
  G : FnOk P w K mg base CX k f fd ps sp
  b : Binds K fd ps []
structure CalI (P : Program) (w : World) (K : PySem.W.Frag) (mg : Str → Option Value) (base : Heap) (CX : CXT) (k : Nat) (x : Str) (C f : Addr) (fd : FuncData) (ps : List Str) (sp : Sp) : Prop extends CalB P w K mg base CX k f fd ps sp where
  mkc : Mk K C f
  m : mg x = some (.ref C)
structure CalS (P : Program) (w : World) (K : PySem.W.Frag) (mg : Str → Option Value) (base : Heap) (CX : CXT) (k : Nat) (C p : Addr) (m : Str) (f : Addr) (fd : FuncData) (ps : List Str) (sp : Sp) : Prop extends CalB P w K mg base CX k f fd ps sp where
  rd : ClX.CRead K C (.type "type")
  sm : SMet K C (.type "type") m p f
structure CalP (P : Program) (w : World) (K : PySem.W.Frag) (mg : Str → Option Value) (base : Heap) (CX : CXT) (k : Nat) (C p : Addr) (m : Str) (f : Addr) (fd : FuncData) (ps : List Str) (sp : Sp) : Prop extends CalB P w K mg base CX k f fd ps sp where
  cl : Cls K C
  pr : PropOf K C m p f
structure CalO (P : Program) (w : World) (K : PySem.W.Frag) (mg : Str → Option Value) (base : Heap) (CX : CXT) (k : Nat) (C : Addr) (op : Operator) (f : Addr) (fd : FuncData) (ps : List Str) (sp : Sp) : Prop extends CalB P w K mg base CX k f fd ps sp where
  op : OpC K C f op
structure CalC (P : Program) (w : World) (K : PySem.W.Frag) (mg : Str → Option Value) (base : Heap) (CX : CXT) (k : Nat) (C f : Addr) (fd : FuncData) (ps : List Str) (sp : Sp) : Prop extends CalB P w K mg base CX k f fd ps sp where
  co : StX.CallO K C f

/-! ### the written part named (in comprehensions) -/
section
variable {X : Cx} {e : Expr} {es : List Expr} {f : Str} {pos p : Pos} {ta : TE} {t : TA}
theorem e_f (K : PySem.W.Frag) (he : PE X e ta) (hb : attributeBase e f X.env (eval e X.env) = eval e X.env := by rfl) (h : X.K = K := by rfl) : PE X (.Attribute e f pos) (tFld K ta f) := h ▸ pe_fld he hb
theorem e_cv (K : PySem.W.Frag) (he : PE X e ta) (hb : attributeBase e f X.env (eval e X.env) = eval e X.env := by rfl) (h : X.K = K := by rfl) : PE X (.Attribute e f pos) (ClX.tCVal K ta f) := h ▸ ClX.pe_cval he hb
end

/-! ### len of an own class -/
structure LenC (K : PySem.W.Frag) (C f : Addr) : Prop where
  at_ : PySem.W.findIn K (.ref C) "__len__" = some (some (.ref f))
  fn : PySem.W.isFn K (.ref f) = true
theorem call_lenO {X : Cx} {k : Nat} {C f : Addr} {fd : FuncData} {ps : List Str} {sp : Sp} (c : LenC X.K C f) (F : FnOk X.prog X.w X.K X.mg X.base CX0 k f fd ps sp) (hr : Room (k + 1) X.A) (hb : Binds X.K fd ps []) :
    CallR X (.builtin "len") (fun xs H Q => ∃ a dx fs, xs = [.ref a] ∧ H a = some (.ins C dx fs) ∧ sp [.ref a] H (fun v H' => ∃ n : Int, v = .int n ∧ 0 ≤ n ∧ n < 2 ^ 62 ∧ Q (.int n) H') E0) := by
  intro pins s σ H xs us Q I r h
  obtain ⟨a, dx, fs, rfl, ea, q⟩ := h
  obtain rfl := Vals.ref1 r
  obtain ⟨m, fr⟩ := I.fr
  obtain ⟨mA, O, _⟩ := ins_get I.hok ea
  obtain ⟨od, J, _⟩ := O.look
  refine PySem.W.len_K fr I.ok.mod.kin J c.at_ c.fn ?_
  have hl : ([Value.ref a] ++ []).length = ps.length := (F.len _ _ _ _ q)
  have b := hb s [.ref a] I.kIn hl
  rw [List.append_nil] at b
  refine wpAny_call (codeAny_mono (F.run X.A.in1 X.stack s H ⟨[.ref a], []⟩ [.ref a] [.ref a] _ E0 hr.in1 I.env0.in1 b (.cons rfl .nil) q) fun r s' hq' => ?_)
  cases r with
  | error e => exact False.elim hq'
  | ok fl =>
    cases fl with
    | ret u =>
      obtain ⟨v, H', I3, rv, n, rfl, h0, h1, q3⟩ := I.after hq'
      obtain ⟨t, rfl⟩ := rv
      exact ⟨⟨h0, Int.lt_trans h1 (by decide)⟩, ⟨.int n, H', I3.tok _, ⟨_, rfl⟩, q3⟩⟩
    | next => exact False.elim hq'
    | brk => exact False.elim hq'
    | cont => exact False.elim hq'
structure CalL (P : Program) (w : World) (K : PySem.W.Frag) (mg : Str → Option Value) (base : Heap) (CX : CXT) (k : Nat) (C f : Addr) (fd : FuncData) (ps : List Str) (sp : Sp) : Prop extends CalB P w K mg base CX k f fd ps sp where
  le : LenC K C f
end El

set_option Elab.async false
set_option linter.all false
set_option maxRecDepth 100000
set_option maxHeartbeats 4000000
/-! Own words: static methods and callable objects inside a try; exception classes that inherit their __init__. -/
namespace El
open PySem PySem.Spec PyProof.Rows L2
section
variable {X : Cx} {CX : CXT} {k : Nat} {C p g f : Addr} {mc : Value} {fd : FuncData} {ps : List Str} {sp : Sp} {E : L2.St → XK} {o e fe : Expr} {es : List Expr} {m : Str} {pos apos : Pos} {ta tf : TE} {t : TA} {pl : Sem Bool}
theorem code_fnS {pins : List (Addr × Obj)} {σ : L2.St} {H : Hp} {s : Shared} {Q : VK} {us : List Value} {vs : List V} (F : FnOk X.prog X.w X.K X.mg X.base CX k f fd ps sp) (hr : Room k X.A) (hb : Binds X.K fd ps []) (hx : PassesAt CX X σ (E σ))
    (I : Inv X pins σ H s) (r : Vals vs us) (h : sp vs H Q (E σ)) : codeAny (model X.prog X.w) X.A (.call (.ref f) ⟨us, []⟩) (fun r s' => match r with | .ok (.ret u) => EP X pins σ Q u s' | .error e => X.xe e s' | _ => False) s := by
  have hl : us.length = ps.length := by rw [← r.length]; exact F.len _ _ _ _ h
  have b := hb s us I.kIn (by rw [List.append_nil]; exact hl)
  rw [List.append_nil] at b
  refine codeAny_mono (F.run X.A X.stack s H ⟨us, []⟩ us vs Q (E σ) hr I.env0 b r h) fun r s' hq => ?_
  cases r with
  | error e => exact hx pins H s e s' I hq
  | ok fl =>
    cases fl with
    | ret u => exact I.after hq
    | next => exact False.elim hq
    | brk => exact False.elim hq
    | cont => exact False.elim hq
/-- C.m(e, ..), what it lets out being taken where it stands -/
def tSMS (C : Addr) (sp : Sp) (E : L2.St → XK) (ta : TE) (t : TA) : TE := fun σ H Q => ta σ H fun x H1 => x = .ref C ∧ t σ H1 fun vs H2 => sp vs H2 Q (E σ)
theorem pe_smethS (he : PE X o ta) (r : ClX.CRead X.K C mc) (c : SMet X.K C mc m p g) (F : FnOk X.prog X.w X.K X.mg X.base CX k g fd ps sp) (hr : Room k X.A) (hb : Binds X.K fd ps []) (hx : ∀ σ, PassesAt CX X σ (E σ)) (ha : PA X (e :: es) t)
    (hst : starEach (e :: es) X.env = (false, eval e X.env) :: starEach es X.env := by rfl) (hpl : (backTo pos (starEach es X.env)).any (·.1) = false := by rfl)
    (ht : eval (.Call (.Attribute o m apos) (e :: es) [] pos) X.env = (do
      let ov ← eval o X.env
      standAt apos.atName
      let (f, first) ← holding [ov] (getMethod ov m pl)
      callWith pos f first (backTo pos (starEach (e :: es) X.env)) (backToKw pos (keywordEach [] X.env))) := by rfl) :
    PE X (.Call (.Attribute o m apos) (e :: es) [] pos) (tSMS C sp E ta t) := by
  refine ⟨fun pins s σ H Q I h => ?_⟩
  refine PySem.W.methodCall_KW (pl := pl) (thn (he.run pins s σ H _ I h) fun u s1 ⟨x, H1, I1, rx, ex, q⟩ => ?_) ht
  subst ex
  obtain rfl : u = Value.ref C := rx
  refine getsm_ok I1 r c fun s2 I2 => ?_
  refine PySem.W.callWith_K (h₀ := X.base) I2.ok.mod.kin c.kp (thn (ha.run pos pins s2 σ H1 _ I2 q) fun us s3 ⟨vs, H2, I3, rv, q2⟩ => ⟨I3.kIn, ?_⟩) hst hpl
  exact run_fnS F hr hb (hx σ) I3 rv q2
/-- f(e, ..), f an instance of C, what it lets out being taken where it stands -/
def tCallOS (C : Addr) (sp : Sp) (E : L2.St → XK) (tf : TE) (t : TA) : TE := fun σ H Q => tf σ H fun y H1 => ∃ a, y = V.ref a ∧ t σ H1 fun vs H2 => (∃ dx fs, H2 a = some (.ins C dx fs)) ∧ sp (V.ref a :: vs) H2 Q (E σ)
theorem pe_callOS (hf : PE X fe tf) (c : StX.CallO X.K C g) (F : FnOk X.prog X.w X.K X.mg X.base CX k g fd ps sp) (hb : Binds X.K fd ps []) (hr : Room k X.A) (hx : ∀ σ, PassesAt CX X σ (E σ)) (ha : PA X (e :: es) t)
    (ht : eval (.Call fe (e :: es) [] pos) X.env = (do callWith pos (← eval fe X.env) [] (backTo pos (starEach (e :: es) X.env)) (backToKw pos (keywordEach [] X.env))) := by rfl)
    (he : starEach (e :: es) X.env = (false, eval e X.env) :: starEach es X.env := by rfl) (hpl : (backTo pos (starEach es X.env)).any (·.1) = false := by rfl) : PE X (.Call fe (e :: es) [] pos) (tCallOS C sp E tf t) := by
  refine ⟨fun pins s σ H Q I h => ?_⟩
  refine Call_ (thn (hf.run pins s σ H _ I h) fun u s1 ⟨y, H1, I1, ry, a, ey, q⟩ => ?_) ht
  subst ey
  obtain rfl : u = Value.ref a := ry
  refine StX.callO_with (thn (ha.run pos pins s1 σ H1 _ I1 q) fun us s2 ⟨vs, H2, I2, r, hi, q2⟩ => ?_) he hpl
  obtain ⟨ox, od, J, hd⟩ := StX.insC_at I2 (.inr hi)
  refine ⟨⟨C, ox, od, J, hd⟩, ?_⟩
  refine wpAny_call (PySem.W.kco_code I2.kIn J hd c.at_ c.fn c.fi (codeAny_mono (code_fnS (us := .ref a :: us) (vs := .ref a :: vs) F hr hb (hx σ) I2 (.cons rfl r) q2) fun r s' h => ?_))
  cases r with
  | error e => exact h
  | ok fl =>
    cases fl with
    | ret u => exact h
    | next => exact False.elim h
    | brk => exact False.elim h
    | cont => exact False.elim h
end

/-! ### an exception class C whose __init__ is that of D above it -/
open NdefX
structure ExI (K : PySem.W.Frag) (C D fI : Addr) (fields : List Str) : Prop where
  oex : OexC K C
  sup : PySem.W.ks_superIn K C D "__init__" = some (some (.builtin "ValueError.__init__"))
  subV : PySem.W.subIn K (.ref C) (.type "ValueError") = some true
  mro : PySem.W.mroIn K C (.ref D) = some true
  iC : PySem.W.findIn K (.ref C) "__init__" = some (some (.ref fI))
  tI : PySem.W.typeIn K (.ref fI) = some (.type "function")
  no : ∀ f ∈ fields, PySem.W.findIn K (.ref C) f = some none
  xf : XfC K C
  is : ExcC K C
theorem exi_mk {K : PySem.W.Frag} {C D fI N : Addr} {fields : List Str} {nm q : Str} {bs bm : List Value} {sn : List Str} {sub : List Value} {ab : Bool} {col : Option Bool} {dd : Option Addr} {k0 k1 k2 k3 k5 : Option Value}
    (cls : K.lookup C = some (excClassObj nm q C N bs bm true sn sub ab col dd k0 k1 k2 k3 k5 "ValueError.__new__")) (ref : PySem.HandSPX.refsVE bm = true)
    (sa : PySem.W.findIn K (.ref C) "__setattr__" = some (some (.builtin "object.__setattr__"))) (exC : PySem.W.subIn K (.ref C) (.type "BaseException") = some true) (tyC : PySem.W.typeIn K (.ref C) = some (.type "type")) (kC : PySem.W.keepIn K (.ref C) = true)
    (sup : PySem.W.ks_superIn K C D "__init__" = some (some (.builtin "ValueError.__init__"))) (subV : PySem.W.subIn K (.ref C) (.type "ValueError") = some true) (mro : PySem.W.mroIn K C (.ref D) = some true)
    (iC : PySem.W.findIn K (.ref C) "__init__" = some (some (.ref fI))) (tI : PySem.W.typeIn K (.ref fI) = some (.type "function")) (no : ∀ f ∈ fields, PySem.W.findIn K (.ref C) f = some none)
    (ga : PySem.W.findIn K (.ref C) "__getattribute__" = some (some (.builtin "BaseException.__getattribute__"))) (gg : PySem.W.findIn K (.ref C) "__getattr__" = some none) (hd : PySem.W.hasDictIn K C = true)
    (hcl : PySem.W.findIn K (.ref C) "__class__" = some (some (.builtin "object.__class__"))) (hn : PySem.W.specialIn K (.builtin "object.__class__") "__get__" = some (some (.builtin "getset_descriptor.__get__"))) (ht : PySem.W.takesIn K (.builtin "object.__class__") = some true) (hm : PySem.W.mroIn K C (.type "object") = some true) : ExI K C D fI fields :=
  ⟨⟨⟨nm, q, N, bs, bm, sn, sub, ab, col, dd, k0, k1, k2, k3, k5, cls, ref⟩, sa, exC, tyC, kC⟩, sup, subV, mro, iC, tI, no, ⟨ga, gg, exC, hd⟩, ⟨ga, gg, exC, hd, hcl, hn, ht, hm⟩⟩
structure CalEI (P : Program) (w : World) (K : PySem.W.Frag) (mg : Str → Option Value) (base : Heap) (k : Nat) (x : Str) (C f : Addr) (fd : FuncData) (ps : List Str) (ok : List V → Prop) (fs : List V → List (Str × V)) (fields : List Str) : Prop where
  G : FnOk P w K mg base CX0 k f fd ps (spE C ok fs)
  b : Binds K fd ps []
  X : ∃ D, ExI K C D f fields
  m : mg x = some (.ref C)
theorem CalEI.oex {P : Program} {w : World} {K : PySem.W.Frag} {mg : Str → Option Value} {base : Heap} {k : Nat} {x : Str} {C f : Addr} {fd : FuncData} {ps : List Str} {ok : List V → Prop} {fs : List V → List (Str × V)} {fields : List Str} (c : CalEI P w K mg base k x C f fd ps ok fs fields) : OexC K C := by obtain ⟨D, X⟩ := c.X; exact X.oex
theorem CalEI.iC {P : Program} {w : World} {K : PySem.W.Frag} {mg : Str → Option Value} {base : Heap} {k : Nat} {x : Str} {C f : Addr} {fd : FuncData} {ps : List Str} {ok : List V → Prop} {fs : List V → List (Str × V)} {fields : List Str} (c : CalEI P w K mg base k x C f fd ps ok fs fields) : PySem.W.findIn K (.ref C) "__init__" = some (some (.ref f)) := by obtain ⟨D, X⟩ := c.X; exact X.iC
theorem CalEI.tI {P : Program} {w : World} {K : PySem.W.Frag} {mg : Str → Option Value} {base : Heap} {k : Nat} {x : Str} {C f : Addr} {fd : FuncData} {ps : List Str} {ok : List V → Prop} {fs : List V → List (Str × V)} {fields : List Str} (c : CalEI P w K mg base k x C f fd ps ok fs fields) : PySem.W.typeIn K (.ref f) = some (.type "function") := by obtain ⟨D, X⟩ := c.X; exact X.tI
/-! ### characters whose repr is bounded -/
def Asc (z : Str) : Prop := ∀ c ∈ z.cps.toList, c < 16 ^ 8
theorem repr_le {z : Str} (h : Asc z) (hl : z.length ≤ 1000) : (reprText z).length ≤ 10002 := Nat.le_trans (PySem.StrLaws.reprText_len z h) (by omega)
end El

set_option Elab.async false
set_option linter.all false
set_option maxRecDepth 100000
set_option maxHeartbeats 4000000
/-! Own words: methods of own classes, classes whose __init__ has defaults, tuple targets in comprehensions. -/
namespace El
open PySem PySem.Spec PyProof.Rows L2
structure CalM (P : Program) (w : World) (K : PySem.W.Frag) (mg : Str → Option Value) (base : Heap) (CX : CXT) (k : Nat) (C : Addr) (m : Str) (f : Addr) (fd : FuncData) (ps : List Str) (sp : Sp) : Prop extends CalB P w K mg base CX k f fd ps sp where
  cl : Cls K C
  me : Meth K C m f
/-- a class whose __init__ has defaults dvs that fill up -/
structure CalID (P : Program) (w : World) (K : PySem.W.Frag) (mg : Str → Option Value) (base : Heap) (CX : CXT) (k : Nat) (x : Str) (C f : Addr) (fd : FuncData) (ps : List Str) (dvs : List V) (sp : Sp) : Prop where
  G : FnOk P w K mg base CX k f fd ps sp
  b : ∃ ds, Vals dvs ds ∧ Binds K fd ps ds
  mkc : Mk K C f
  m : mg x = some (.ref C)
section
variable {X : Cx} {CX : CXT} {k : Nat} {C f : Addr} {fd : FuncData} {ps : List Str} {dvs : List V} {sp : Sp} {E : XK} {x : Str} {p pos : Pos} {e : Expr} {es : List Expr} {t : TA}
theorem pe_makeD (c : CalID X.prog X.w X.K X.mg X.base CX k x C f fd ps dvs sp) (hr : Room (k + 1) X.A) (hg : Gl X x) (hx : Passes CX X E) (ha : PA X (e :: es) t) (hdb : (x == ("__debug__" : Str)) = false := by decide)
    (he : starEach (e :: es) X.env = (false, eval e X.env) :: starEach es X.env := by rfl) (hpl : (backTo pos (starEach es X.env)).any (·.1) = false := by rfl) :
    PE X (.Call (.Name x p) (e :: es) [] pos) (tMake C sp dvs E t) := by
  obtain ⟨ds, hd, hb⟩ := c.b
  exact pe_make c.mkc c.G hr hg c.m hb hd hx ha hdb he hpl
end
section
variable {X : Cx}
theorem pg_tupK (K : PySem.W.Frag) {es : List Expr} {k : Nat} {t : TGs} {n : Nat} {pos : Pos} (hc : X.calm = true) (h : PGs X es t)
    (hn : (assignEach es X.env).length = n := by rfl) (hst : (assignEach es X.env).findIdx? (·.1) = none := by rfl) (hK : X.K = K := by rfl) : PG X (.Tuple es k pos) (gTup K n t) := hK ▸ pg_tup hc h hn hst
end
/-- a def of the text whose last parameter has a default -/
theorem fund_mk {K : PySem.W.Frag} {x qual : Str} {st : Stmt} {f T : Addr} {oc : Value} {od dd an : Option Addr} {osl dsl : Array (Option Value)} {kV doc pm cdv ct : Value} {its : Array Value} {n : Nat} {dvs : List V}
    (l : K.lookup f = some ⟨oc, od, .func (PySem.W.fnOf x qual (defArgs st) (defBody st) (defScope st) (.ref T) kV doc pm an cdv ct), osl⟩) (c : PySem.W.codeIn K cdv qual = true) (k : PySem.W.keepIn K (.ref f) = true)
    (lT : K.lookup T = some ⟨.type "tuple", dd, .seq its n, dsl⟩) (hv : Vals dvs its.toList) (hne : dvs ≠ []) : FunD K x qual (defArgs st) (defBody st) (defScope st) dvs [] f (PySem.W.fnOf x qual (defArgs st) (defBody st) (defScope st) (.ref T) kV doc pm an cdv ct) :=
  ⟨⟨oc, od, .ref T, kV, doc, pm, an, cdv, ct, osl, rfl, l, c, .inr ⟨hne, T, _, its.toList, n, rfl, lT, by simp, hv⟩, .inl rfl⟩, k⟩
end El

set_option Elab.async false
set_option linter.all false
set_option maxRecDepth 100000
set_option maxHeartbeats 4000000
/-! Own words: `in`, `not in` and `[..]` of own classes. -/
namespace El
open PySem PySem.Spec PyProof.Rows L2
/-- an own class's `__contains__` -/
structure InC (K : PySem.W.Frag) (C f : Addr) : Prop where
  at_ : PySem.W.findIn K (.ref C) "__contains__" = some (some (.ref f))
  fn : PySem.W.isFn K (.ref f) = true
/-- an own class's `__getitem__` -/
structure ItC (K : PySem.W.Frag) (C f : Addr) : Prop where
  at_ : PySem.W.findIn K (.ref C) "__getitem__" = some (some (.ref f))
  fn : PySem.W.isFn K (.ref f) = true
  ns : PySem.W.noSeq K C = true
section
variable {X : Cx} {CX : CXT} {k : Nat} {C f : Addr} {fd : FuncData} {ps : List Str} {sp : Sp} {E : XK}
/-- x in a, a of the class at C; n: not in -/
def rInO (n : Bool) (C : Addr) (sp : Sp) (E : XK) : R2 := fun x y H Q => ∃ a dx fs, y = .ref a ∧ H a = some (.ins C dx fs) ∧ sp [.ref a, x] H (fun v H' => ∃ b : Bool, v = .bl b ∧ Q (.bl (n ^^ b)) H') E
theorem op_inO (c : InC X.K C f) (F : FnOk X.prog X.w X.K X.mg X.base CX k f fd ps sp) (hr : Room k X.A) (hb : Binds X.K fd ps []) (hx : Passes CX X E) : OpR X (compareOp .In) (rInO false C sp E) := by
  intro pins s σ H x y v u Q I rx ry h
  obtain ⟨a, dx, fs, rfl, ea, q⟩ := h
  obtain rfl : u = Value.ref a := ry
  obtain ⟨m, fr⟩ := I.fr
  obtain ⟨mA, O, _⟩ := ins_get I.hok ea
  obtain ⟨od, J, _⟩ := O.look
  refine PySem.W.in_K fr I.ok.mod.kin J c.at_ c.fn ?_
  refine wpAny_mono (run_fn (us := [.ref a, v]) (vs := [.ref a, x]) (ds := []) (dvs := []) F hr hb .nil hx I (.cons rfl (.cons rx .nil)) q) (fun u' s' h' => ?_) fun _ _ z => z
  obtain ⟨w, H', I', rw', b, rfl, q'⟩ := h'
  cases (show u' = Value.bool b from rw')
  refine wpAny_pure ⟨.bl b, H', I', rfl, ?_⟩
  cases b <;> exact q'
theorem op_notInO (c : InC X.K C f) (F : FnOk X.prog X.w X.K X.mg X.base CX k f fd ps sp) (hr : Room k X.A) (hb : Binds X.K fd ps []) (hx : Passes CX X E) : OpR X (compareOp .NotIn) (rInO true C sp E) := by
  intro pins s σ H x y v u Q I rx ry h
  obtain ⟨a, dx, fs, rfl, ea, q⟩ := h
  obtain rfl : u = Value.ref a := ry
  obtain ⟨m, fr⟩ := I.fr
  obtain ⟨mA, O, _⟩ := ins_get I.hok ea
  obtain ⟨od, J, _⟩ := O.look
  refine PySem.W.notIn_K fr I.ok.mod.kin J c.at_ c.fn ?_
  refine wpAny_mono (run_fn (us := [.ref a, v]) (vs := [.ref a, x]) (ds := []) (dvs := []) F hr hb .nil hx I (.cons rfl (.cons rx .nil)) q) (fun u' s' h' => ?_) fun _ _ z => z
  obtain ⟨w, H', I', rw', b, rfl, q'⟩ := h'
  cases (show u' = Value.bool b from rw')
  refine wpAny_pure ⟨.bl (!b), H', I', rfl, ?_⟩
  cases b <;> exact q'
/-- a[y], a of the class at C -/
def rItO (C : Addr) (sp : Sp) (E : XK) : R2 := fun x y H Q => ∃ a dx fs, x = .ref a ∧ H a = some (.ins C dx fs) ∧ sp [.ref a, y] H Q E
theorem op_itO (c : ItC X.K C f) (F : FnOk X.prog X.w X.K X.mg X.base CX k f fd ps sp) (hr : Room k X.A) (hb : Binds X.K fd ps []) (hx : Passes CX X E) : OpR X getItem (rItO C sp E) := by
  intro pins s σ H x y v u Q I rx ry h
  obtain ⟨a, dx, fs, rfl, ea, q⟩ := h
  obtain rfl : v = Value.ref a := rx
  obtain ⟨m, fr⟩ := I.fr
  obtain ⟨mA, O, _⟩ := ins_get I.hok ea
  obtain ⟨od, J, _⟩ := O.look
  refine PySem.W.getItem_K fr I.ok.mod.kin J c.ns c.at_ c.fn ?_
  exact run_fn (us := [.ref a, u]) (vs := [.ref a, y]) (ds := []) (dvs := []) F hr hb .nil hx I (.cons rfl (.cons ry .nil)) q
end
end El

set_option Elab.async false
set_option linter.all false
set_option maxRecDepth 100000
set_option maxHeartbeats 4000000
/-! Own words: iterating an own class whose `__iter__` returns iter(..) of a tuple. -/
namespace El
open PySem PySem.Spec PyProof.Rows L2
/-- a promise that may speak of how many objects there were at the call -/
def FnS (P : Program) (w : World) (K : PySem.W.Frag) (mg : Str → Option Value) (base : Heap) (CX : CXT) (k : Nat) (f : Addr) (sp : Nat → Sp) : Prop :=
  ∀ (A : Around) (outer : List Env) (s : Shared) (H : Hp) (us : List Value) (vs : List V) (Q : VK) (E : XK), Room k A → Env0 P w K mg base A outer s H → Vals vs us → sp s.heap.objs.size vs H Q E →
    codeAny (model P w) A (.call (.ref f) ⟨us, []⟩) (CR CX outer P w H s Q E) s
section
variable {P : Program} {w : World} {K : PySem.W.Frag} {mg : Str → Option Value} {base : Heap} {j k : Nat} {f : Addr} {sp : Nat → Sp}
theorem FnS.mono {CX : CXT} (F : FnS P w K mg base CX j f sp) (h : j ≤ k) : FnS P w K mg base CX k f sp := fun A outer s H us vs Q E hr => F A outer s H us vs Q E (hr.mono h)
theorem fun_okS {x qual : Str} {st : Stmt} {fd : FuncData} {N ps : List Str} (F : Fun K x qual st f fd) (S : FnScope N ps (defScope st)) (hb : Binds K fd ps []) (len : ∀ n vs H Q E, sp n vs H Q E → vs.length = ps.length)
    (hbody : ∀ (cdv : Value) (A : Around) (outer : List Env) (s : Shared) (H : Hp) (vs : List V) (Q : VK) (E : XK), Room k (A.deeper (envOfC qual (defScope st) s.heap.objs.size f cdv)) → sp s.heap.objs.size vs H Q E →
      ∃ t, PSs (cxOf CX0 P w K mg base N qual (defScope st) f cdv A outer s H E).nox (defBody st) t ∧ t { nx := fun _ H' => Q .non H', rt := Q } (start N vs) H) : FnS P w K mg base CX0 (k + 1) f sp := by
  obtain ⟨oc, od, kV, doc, pm, an, cdv, ct, osl, rfl, lk, hcd⟩ := F.ex
  intro A outer s H us vs Q E hr e0 r hsp
  have hl := len _ _ _ _ _ hsp
  have KX : K.In s.heap := e0.mod.kin.keeps fun b o e => (e0.bs b o e).1
  have bt := hb s us KX (by rw [List.append_nil, ← r.length]; exact hl)
  rw [List.append_nil] at bt
  have nl : s.heap.NoLimit := e0.mod.nolimit.keeps fun b o e => (e0.bs b o e).1
  refine codeAny_call_function hr.depth (KX _ _ lk) rfl S.co S.gen rfl (PySem.W.codeRec_of KX hcd) (bt _ _ _ _ ?_)
  refine wpAny_newFunctionEnv_cells S.kind (fun y hy => (S.par y.1 (List.of_mem_zip hy).1).imp id fun q => ⟨q, PySem.W.cellsFrom_some _ _ _ (.inl q)⟩) fun env he s1 x => ⟨nl.keeps x.toInCall.keep, codeAny_func ?_⟩
  subst he
  obtain ⟨t, ht, hq⟩ := hbody cdv A outer s H vs Q E (hr.deeper _) hsp
  have I := inv_start (CX := CX0) (w := w) (E := E) S hr.hd e0 hl r x
  refine wpAny_mono (ht.nox.run [] s1 (start N vs) H _ I hq) (fun fl s' hs => ?_) fun _ _ hs => hs
  match fl, hs with
  | .ret u, ⟨v, σ', H', J, rv, q⟩ => exact ⟨v, H', J.os, J.bare, J.base, J.hok, rv, q⟩
  | .next, ⟨σ', H', J, q⟩ => exact ⟨V.non, H', J.os, J.bare, J.base, J.hok, rfl, q⟩
  | .brk, ⟨_, _, _, q⟩ => exact False.elim q
  | .cont, ⟨_, _, _, q⟩ => exact False.elim q
end

/-! ### iter(..) of a tuple -/
def tiObj (t : Addr) : Obj := { cls := .type "tuple_iterator", data := .fields #[.ref t, .int 0 0] }
/-- at it the iterator of the tuple at t, at its beginning -/
def TitO (t it : Addr) : HO := .ext fun h => h.get? it = some (tiObj t)
theorem titO_ok {P : Program} {w : World} {H : Hp} {h : Heap} {t it : Addr} (e : h.get? it = some (tiObj t)) : ObjOk P w H h it (TitO t it) := ⟨e, ⟨_, e⟩, fun _ _ q k => k _ q⟩
theorem titO_get {X : Cx} {pins : List (Addr × Obj)} {σ : L2.St} {H : Hp} {s : Shared} {t it : Addr} (I : Inv X pins σ H s) (e : H it = some (TitO t it)) : s.heap.get? it = some (tiObj t) := (I.hok it _ e).1
def rIterT (K : PySem.W.Frag) (n : Nat) : List V → Hp → VK → Prop := fun xs H Q => ∃ (t : Addr) (zs : List V), xs = [.ref t] ∧ SqT K H t zs ∧ ∀ it, H it = none → n ≤ it → Q (.ref it) (upd H it (TitO t it))
theorem run_iterT {prog : Program} {w : World} {A : Around} {E : Value → Shared → Prop} {s : Shared} {t : Addr} {items : Array Value} {Q : Value → Shared → Prop} (ht : s.heap.IsTuple t items) (h : Q (.ref s.heap.objs.size) { s with heap := s.heap.push (tiObj t) }) : wpAny (model prog w) A (call (.builtin "iter") [.ref t]) Q E s := by
  refine Calls.call_function_entry (by decide +kernel) (by decide +kernel) PySem.W.kdk_entry_iter (PySem.W.kdk_args_iter _) ?_
  unfold Builtin.«iter»
  refine wpAny_bind (m := someArgs "iter" 1 2 _) (wpAny_of_eq (a := [Value.ref t]) (by first | rfl | kernel_rfl!) ?_)
  exact wpAny_bind (wpAny_pyIter_tuple ht (wpAny_pure ⟨_, rfl, h⟩))
theorem call_iterT {X : Cx} : CallR X (.builtin "iter") (rIterT X.K X.s_0.heap.objs.size) := by
  intro pins s σ H xs us Q I r h
  obtain ⟨t, zs, rfl, hq, q⟩ := h
  obtain rfl := Vals.ref1 r
  obtain ⟨its, rv, p, hz⟩ := I.tuple hq
  refine run_iterT (show s.heap.IsTuple t its.toArray from p) ?_
  exact ⟨.ref s.heap.objs.size, _, I.laid (t' := s.toks) (fun b u e => Heap.get?_push_of_some _ e) (Nat.le_refl _) (titO_ok (Heap.get?_push_size _ rfl)), rfl, q _ (I.hok.fresh (Nat.le_refl _)) I.sz⟩
theorem iterTK {X : Cx} (K : PySem.W.Frag) (n : Nat) (h : X.K = K := by rfl) (hn : X.s_0.heap.objs.size = n := by rfl) : CallR X (.builtin "iter") (rIterT K n) := h ▸ hn ▸ call_iterT

/-! ### for x in a, a of the class at C -/
structure OitC (K : PySem.W.Frag) (C f : Addr) : Prop where
  at_ : PySem.W.findIn K (.ref C) "__iter__" = some (some (.ref f))
  fn : PySem.W.isFn K (.ref f) = true
/-- behind the call the iterator is forgotten -/
def iOwnT (K : PySem.W.Frag) (C : Addr) (sp : Nat → Sp) (n : Nat) (E : XK) (te : TE) : TI := fun σ H R => te σ H fun x H1 => ∃ a dx fs, x = .ref a ∧ H1 a = some (.ins C dx fs) ∧ ∀ m, n ≤ m → sp m [.ref a] H1 (fun v H2 => ∃ t it, v = .ref it ∧ H2 it = some (TitO t it) ∧ n ≤ it ∧ R (Itt K t) (ItX.dropH H2 it)) E
theorem pi_ownT {X : Cx} {CX : CXT} {k : Nat} {C f : Addr} {sp : Nat → Sp} {E : XK} {tg e : Expr} {te : TE} (c : OitC X.K C f) (F : FnS X.prog X.w X.K X.mg X.base CX k f sp) (hr : Room k X.A) (hx : Passes CX X E) (he : PE X e te) : PI X tg e (iOwnT X.K C sp X.s_0.heap.objs.size E te) := by
  refine ⟨fun pins s σ H R I h => ?_⟩
  refine thn (he.run pins s σ H _ I h) fun v s1 ⟨x, H1, I1, r1, a, dx, fs, ex, ea, q⟩ => ?_
  subst ex
  obtain rfl : v = Value.ref a := r1
  obtain ⟨m, fr⟩ := I1.fr
  obtain ⟨mA, O, _⟩ := ins_get I1.hok ea
  obtain ⟨od, J, _⟩ := O.look
  refine PySem.W.owit_iter fr I1.ok.mod.kin J c.at_ c.fn ?_
  refine wpAny_call (codeAny_mono (F X.A X.stack s1 H1 [.ref a] [.ref a] _ E hr I1.env0 (.cons rfl .nil) (q _ I1.sz)) fun r s' hq => ?_)
  match r, hq with
  | .error e, hq => exact hx pins σ H1 s1 e s' I1 hq
  | .ok (.ret u), hq =>
    obtain ⟨w', H2, I2, rw', t, it, rfl, hi, hn, hR⟩ := I1.after hq
    obtain rfl : u = Value.ref it := rw'
    have eo := titO_get I2 hi
    have hi' := hi
    unfold TitO at hi'
    have LT : PySem.W.Looks (model X.prog X.w) s'.heap (typeOf (.ref it)) (.type "tuple_iterator") := (PySem.W.Looks.ld (part := none) eo).andThen .now
    have LN : PySem.W.Looks (model X.prog X.w) s'.heap (specialOf (.ref it) (Str.ofString "__next__")) (some (.builtin "tuple_iterator.__next__")) := LT.andThen (PySem.W.Looks.of_pure slot_tupleiter_next.lookup)
    refine LN.here ?_
    refine ⟨it, [it], _, _, ItX.dropH H2 it, rfl, ItX.inv_drop I2 hi', turn_tuple t it, ⟨_, eo, rfl, rfl⟩, fun b hb => ?_, hR⟩
    have e : b = it := by simpa using hb
    rw [e]
    exact ItX.inv_fp I2 hi hn
  | .ok .next, hq => exact False.elim hq
  | .ok .brk, hq => exact False.elim hq
  | .ok .cont, hq => exact False.elim hq
end El

set_option Elab.async false
set_option linter.all false
set_option maxRecDepth 100000
set_option maxHeartbeats 4000000
/-! Own words: len(set(t)) of a tuple of any number of texts. -/
namespace El
open PySem PySem.Spec PyProof.Rows L2
/-- among the first i texts -/
def Has (xs : List Str) (i : Nat) : Str → Bool := fun y => (xs.take i).any (· == y)
/-- c different ones among the first i, as far as it is asked -/
def Cnt (xs : List Str) (i c : Nat) : Prop := c ≤ i ∧ (c = i ↔ (xs.take i).Nodup)
theorem has_iff {xs : List Str} {i : Nat} {y : Str} : Has xs i y = true ↔ y ∈ xs.take i := by
  unfold Has
  rw [List.any_eq_true]
  constructor
  · rintro ⟨z, hz, e⟩
    rw [beq_iff_eq] at e
    exact e ▸ hz
  · intro h
    exact ⟨y, h, beq_iff_eq.mpr rfl⟩
theorem take_more {xs : List Str} {i : Nat} {x : Str} (e : xs[i]? = some x) : xs.take (i + 1) = xs.take i ++ [x] := by rw [List.take_add_one, e]; rfl
theorem Cnt.nil (xs : List Str) : Cnt xs 0 0 := ⟨Nat.le_refl _, by simp⟩
theorem Cnt.more {xs : List Str} {i c : Nat} {x : Str} (h : Cnt xs i c) (e : xs[i]? = some x) : Cnt xs (i + 1) (if Has xs i x = true then c else c + 1) := by
  obtain ⟨h1, h2⟩ := h
  have hn : (xs.take (i + 1)).Nodup ↔ (xs.take i).Nodup ∧ x ∉ xs.take i := by
    rw [take_more e, List.nodup_append]
    constructor
    · rintro ⟨a, -, b⟩
      exact ⟨a, fun hx => b x hx x (List.mem_singleton.mpr rfl) rfl⟩
    · rintro ⟨a, b⟩
      refine ⟨a, by simp, fun y hy z hz => ?_⟩
      rw [List.mem_singleton] at hz
      intro q
      exact b (hz ▸ q ▸ hy)
  unfold Cnt
  rw [hn]
  by_cases q : Has xs i x = true
  · rw [if_pos q]
    refine ⟨by omega, ⟨fun z => absurd z (by omega), fun z => absurd (has_iff.mp q) z.2⟩⟩
  · rw [if_neg q]
    refine ⟨by omega, ⟨fun z => ⟨h2.mp (by omega), fun y => q (has_iff.mpr y)⟩, fun z => by rw [h2.mpr z.1]⟩⟩
section
variable {prog : Program} {w : World} {A : Around} {R : Result → Shared → Prop} {it : Addr} {fp wr : List Addr} {G : Array GenState → Array GenState → Prop} {n : Nat} {Pv : Nat → Value → Prop} {St : Nat → Shared → Prop}
theorem loopTx (W : WalksS prog w A.in1 it fp wr G n Pv St) (b : Addr) (hb : b ∉ fp) (xs : List Str) (hn : xs.length = n) (hs : n + 1 < scanBound) (hv : ∀ i v, Pv i v → ∃ t, v = .str (xs.getD i Str.empty) t) :
    ∀ (k i : Nat) (s : Shared), n - i = k → i ≤ n → St i s → (∃ c, Cnt xs i c ∧ s.heap.SetOf (PySem.strKind prog w) b (Has xs i) c) →
      (∀ s' c, Moved (b :: wr) G s s' → Cnt xs n c → s'.heap.SetOf (PySem.strKind prog w) b (Has xs n) c → R (.ok (.ret .none)) s') →
      codeAny (model prog w) A (.builtin "set.update.loop" ⟨[.ref b, .ref it], []⟩) R s := by
  have hbw : b ∉ wr := fun h => hb (W.sub _ h)
  have wsub : ∀ q ∈ wr, q ∈ b :: wr := fun q hq => List.mem_cons_of_mem _ hq
  intro k
  induction k with
  | zero =>
    rintro i s hk hi st ⟨c, hc, ho⟩ done
    obtain rfl : i = n := by omega
    refine codeAny_builtin PyProof.Rows.F.entry_set_update_loop ?_
    rw [Around.under_plainId PyProof.Rows.F.plain_set_update_loop _]
    refine wpAny_bind (m := pyNext (.ref it)) (W.done s _ _ st fun s1 mv => ?_)
    refine wpAny_pure (done s1 c (mv.mono wsub) hc ?_)
    obtain ⟨o, es, ep, tb, e, more⟩ := ho
    exact ⟨o, es, ep, tb, mv.heap b _ hbw e, more⟩
  | succ k ih =>
    rintro i s hk hi st ⟨c, hc, ho⟩ done
    have lt : i < n := by omega
    refine codeAny_builtin PyProof.Rows.F.entry_set_update_loop ?_
    rw [Around.under_plainId PyProof.Rows.F.plain_set_update_loop _]
    refine wpAny_bind (m := pyNext (.ref it)) (W.item i s _ _ lt st fun v s1 pv st1 mv => ?_)
    obtain ⟨t, rfl⟩ := hv i v pv
    have ei : xs[i]? = some (xs.getD i Str.empty) := by
      rw [List.getD_eq_getElem?_getD, List.getElem?_eq_getElem (by omega)]; rfl
    have ho1 : s1.heap.SetOf (PySem.strKind prog w) b (Has xs i) c := by
      obtain ⟨o, es, ep, tb, e, more⟩ := ho
      exact ⟨o, es, ep, tb, mv.heap b _ hbw e, more⟩
    refine wpAny_bind (m := holding [Value.str (xs.getD i Str.empty) t] (setAdd b (.str (xs.getD i Str.empty) t))) (wpAny_holding ?_)
    unfold setAdd
    refine wpAny_holding (wpAny_bind ((PySem.strKind prog w).pyHash (strKind_is _ _ _ _) ?_))
    have hlt : c + 1 < scanBound := by have := hc.1; omega
    refine wpAny_setAddHashed_of (knd := PySem.strKind prog w) (s := { s1 with toks := s1.toks + 1 }) (strKind_is _ _ _ _) rfl ho1 hlt fun h' same ho2 => ?_
    have ho3 : h'.SetOf (PySem.strKind prog w) b (Has xs (i + 1)) (if Has xs i (xs.getD i Str.empty) = true then c else c + 1) := by
      refine SetOf_congr ho2 (fun y => ?_) rfl
      rw [Bool.eq_iff_iff, has_iff, take_more ei, List.mem_append, List.mem_singleton, Bool.or_eq_true, has_iff, decide_eq_true_iff]
    refine wpAny_pure ⟨plainId_quiet PyProof.Rows.F.plain_set_update_loop _, ih (i + 1) _ (by omega) lt (W.frame _ s1 _ _ st1 (Nat.le_succ _) fun q hq o e => ?_) ⟨_, hc.more ei, ho3⟩ fun s2 c2 mv2 hc2 hS2 => ?_⟩
    · exact (same.2 q fun z => hb (z ▸ hq)).trans e
    · refine done s2 c2 (Moved.trans W.gtrans ((mv.mono wsub).then_heap (Nat.le_succ _) fun q o hq e => ?_) mv2) hc2 hS2
      exact (same.2 q fun z => hq (z ▸ List.mem_cons_self)).trans e
end
/-- a new set's object -/
def setObj (led : Bool) : Obj := { cls := .type "set", dict := none, data := .set #[] 0 (.fresh 0 0 led) }
section
variable {prog : Program} {w : World} {A : Around} {E : Value → Shared → Prop} {s : Shared}
/-- what set.__init__ does to a new set with a tuple of texts -/
theorem init_tx {l : Addr} {items : Array Value} {xs : List Str} {led : Bool} (hh : A.handled = none) (hl : s.heap.IsTuple l items) (hi : PyProof.Rows.StrsAre items.toList xs) (hx : xs.length + 1 < scanBound) :
    codeAny (model prog w) A (.call (.builtin "set.__init__") ⟨[.ref s.heap.objs.size, .ref l], []⟩)
      (wants (fun r s2 => r = .none ∧ ∃ h' tk c, s2 = { s with heap := h', toks := tk } ∧ Cnt xs xs.length c ∧ h'.SetOf (PySem.strKind prog w) s.heap.objs.size (Has xs xs.length) c ∧ (∀ q o, s.heap.get? q = some o → h'.get? q = some o)) E)
      { s with heap := s.heap.push (setObj led) } := by
  have hT : Shared.TypeIs { s with heap := s.heap.push (setObj led) } (.ref s.heap.objs.size) "set" := ⟨_, Heap.get?_push_size _ rfl, rfl⟩
  refine codeAny_call_builtin PySem.F.called_set.init.plain PySem.F.entry_set_init (check_set_init_1 hT ?_)
  obtain ⟨⟨kc, kd, kx, ks⟩, hol, hcl, nl, hdl⟩ := hl
  simp only at hcl hdl
  subst hcl hdl
  have hol' : (s.heap.push (setObj led)).get? l = some _ := Heap.get?_push_of_some _ hol
  have hl1 : (s.heap.push (setObj led)).IsTuple l items := ⟨_, hol', rfl, nl, rfl⟩
  have hsls := PySem.F.sub_tuple_set
  have hslf := PySem.F.sub_tuple_frozenset
  have hne : (Value.type "tuple" == Value.type "dict") = false := by decide
  unfold Builtin.«set.__init__» noKeywords Builtin.Frozenset.updateFrom
  generalize ePI : pyIter = PI
  wp_walk
  subst ePI
  refine wpAny_pyIter_tuple hl1 (wpAny_bind (wpAny_runValue ?_))
  have below : l < s.heap.objs.size := Heap.lt_size hol
  have nh : A.in1.in1.handled = none := by simp [hh]
  have z1 : (s.heap.push (setObj led)).objs.size = s.heap.objs.size + 1 := Heap.size_push ..
  have apart : l ≠ (s.heap.push (setObj led)).objs.size := by
    rw [z1]
    exact Nat.ne_of_lt (Nat.lt_succ_of_lt below)
  have out : s.heap.objs.size ∉ [(s.heap.push (setObj led)).objs.size, l] := by
    rw [List.mem_cons, List.mem_singleton, z1]
    exact fun q => q.elim (Nat.ne_of_lt (Nat.lt_succ_self _)) (Nat.ne_of_gt below)
  have zx : xs.length = items.size := by rw [← StrsAre.len_eq hi, Array.length_toList]
  refine loopTx ((Walks.tuple nh _ l apart items).toS) s.heap.objs.size out xs zx (zx ▸ hx) (fun i v e => SS.strs_at hi i v (Array.getElem?_toList ▸ e)) (items.size - 0) 0 _ (by omega) (Nat.zero_le _) ?at_ ?first ?last
  case at_ => exact ⟨⟨_, Heap.get?_push_size _ rfl, rfl, rfl⟩, hl1.push _⟩
  case first =>
    refine ⟨0, Cnt.nil xs, ?_⟩
    refine SetOf_congr ((PyProof.Rows.setObjOf_fresh (knd := PySem.strKind prog w) led).setOf (Heap.get?_push_of_some _ (Heap.get?_push_size _ rfl)) (by unfold scanBound; omega)) (fun y => ?_) rfl
    rfl
  case last =>
    rintro ⟨h', g', d', tk', os'⟩ c mv hc ho
    obtain rfl : g' = s.gens := mv.gens
    obtain rfl : d' = s.drawn := mv.drawn
    obtain rfl : os' = s.os := mv.os
    refine wpAny_pure (wpAny_pure ⟨rfl, h', tk', c, rfl, zx ▸ hc, zx ▸ ho, fun q o e => ?_⟩)
    have lq := Heap.lt_size e
    refine mv.heap q o (by rw [List.mem_cons, List.mem_singleton, z1]; exact fun z => z.elim (Nat.ne_of_lt lq) (Nat.ne_of_lt (Nat.lt_succ_of_lt lq))) (Heap.get?_push_of_some _ (Heap.get?_push_of_some _ e))
set_option maxHeartbeats 8000000 in
theorem call_set_tx {l : Addr} {items : Array Value} {xs : List Str} {Q : Value → Shared → Prop} (hh : A.handled = none) (hl : s.heap.IsTuple l items) (hi : PyProof.Rows.StrsAre items.toList xs) (hx : xs.length + 1 < scanBound)
    (h : ∀ (h' : Heap) (tk c : Nat), Cnt xs xs.length c → h'.SetOf (PySem.strKind prog w) s.heap.objs.size (Has xs xs.length) c → (∀ q o, s.heap.get? q = some o → h'.get? q = some o) → Q (.ref s.heap.objs.size) { s with heap := h', toks := tk }) :
    wpAny (model prog w) A (call (.type "set") [.ref l]) Q E s := by
  obtain ⟨_, _, hmro⟩ := PySem.F.called_set.mro
  have hmade := PySem.F.called_set.made
  have hsub := PySem.F.called_set.sub
  have h1 := PySem.F.called_set.notType
  have h2 := PySem.F.called_set.canCreate
  have hct := PySem.F.typeCall_set_1 (.ref l)
  refine wpAny_call (codeAny_of_tree (wpAny_pure (a := _) ⟨Code.quiet_builtin _ (by decide +kernel), codeAny_builtin PySem.F.entry_type_call ?_⟩))
  rw [Around.under_plain (weight_type_call_type "set" [.ref l] []) rfl]
  repeat (any_goals (first | assumption | wp_step))
  refine codeAny_mono (code_set_new_1 (.ref l) (E := E) (Q₁ := fun v s1 => ∃ led, v = .ref s.heap.objs.size ∧ s1 = { s with heap := s.heap.push (setObj led) }) fun led => ⟨led, rfl, rfl⟩) fun r s1 hr => ?_
  match r, hr with
  | .ok (.ret v), hr =>
    obtain ⟨led, rfl, rfl⟩ := hr
    have hS : (s.heap.push (setObj led)).get? s.heap.objs.size = some (setObj led) := Heap.get?_push_size _ rfl
    have hT : Shared.TypeIs { s with heap := s.heap.push (setObj led) } (.ref s.heap.objs.size) "set" := ⟨_, hS, rfl⟩
    have hli := PySem.F.called_set.init.lookup
    have hbi := PySem.F.called_set.init.bind (.ref s.heap.objs.size)
    repeat (any_goals (first | assumption | wp_step))
    refine codeAny_mono (init_tx (E := E) (by simp [hh]) hl hi hx) fun r s2 hr => ?_
    match r, hr with
    | .ok (.ret v), hr =>
      obtain ⟨rfl, h', tk, c, rfl, hc, ho, keep⟩ := hr
      repeat (any_goals (first | assumption | wp_step))
      exact h h' tk c hc ho keep
    | .error e, hr => exact hr
    | .ok .next, hr => exact hr.elim
    | .ok .brk, hr => exact hr.elim
    | .ok .cont, hr => exact hr.elim
  | .error e, hr => exact hr
  | .ok .next, hr => exact hr.elim
  | .ok .brk, hr => exact hr.elim
  | .ok .cont, hr => exact hr.elim
end
/-- len(set(t)), t a tuple of texts: how many different ones, so far as it matters here -/
def tLenSetTx (K : PySem.W.Frag) (ta : TE) : TE := fun σ H Q => ta σ H fun x H1 => ∃ (l : Addr) (xs : List Str), x = .ref l ∧ SqT K H1 l (xs.map V.str) ∧ xs.length < 64 ∧ ∀ c : Nat, c ≤ xs.length → (c = xs.length ↔ xs.Nodup) → Q (.int c) H1
theorem pe_lenSetTx {X : Cx} {a : Expr} {ta : TE} {p p2 q pos : Pos} (hg : Gl X "len") (hm : X.mg "len" = none) (hg2 : Gl X "set") (hm2 : X.mg "set" = none) (ha : PE X a ta) (hc : X.calm = true := by rfl)
    (na : starEach [a] X.env = (false, eval a X.env) :: starEach [] X.env := by rfl) : PE X (.Call (.Name "len" p) [.Call (.Name "set" p2) [a] [] q] [] pos) (tLenSetTx X.K ta) := by
  refine ⟨fun pins s σ H Q I h => Call_ (ld_blt I hg hm boot_len (PyProof.Rows.callWith_builtin1 (PyProof.Rows.args_cons (Call_ (ld_blt I hg2 hm2 boot_set (PyProof.Rows.callWith_type1 (PyProof.Rows.args_cons (thn (ha.run pins s σ H _ I h) fun v s1 ⟨x, H1, I1, r1, q1⟩ => PyProof.Rows.args_nil ?_) na) na rfl))) rfl) rfl rfl))⟩
  obtain ⟨l, xs, rfl, ht, few, q1⟩ := q1
  obtain rfl : v = Value.ref l := r1
  obtain ⟨its, rv, pl, _⟩ := I1.tuple ht
  refine call_set_tx (I1.ok.hd hc) pl (by simpa using strsAre_of rv) (by unfold scanBound; omega) fun h' tk c hcn hS keep => PyProof.Rows.args_nil ?_
  obtain ⟨o, es, ep, tb, ho, hex, hd, _, _, _, hf, hn⟩ := hS
  have I2 : Inv X pins σ H1 { s1 with heap := h', toks := tk } := I1.kept keep
  obtain ⟨c1, c2⟩ := hcn
  rw [List.take_length] at c2
  exact call_len_set ho hex hd hf (by rw [hn]; omega) ⟨.int c, H1, I2.tok _, ⟨_, by rw [hn]⟩, q1 c c1 c2⟩
end El

set_option Elab.async false
set_option linter.all false
set_option maxRecDepth 100000
set_option maxHeartbeats 4000000
/-! Own words: enumerate(t) of a tuple. -/
namespace El
open PySem PySem.Spec PyProof.Rows L2
open AutoSeq1 (wpAny_loadPart')
/-- the tuple at a, each item in a new pair with its place -/
def IteT (K : PySem.W.Frag) (a : Addr) : It where
  go := fun i H => ∃ (xs : List V) (x : V), SqT K H a xs ∧ xs[i]? = some x
  yld := fun i H v H' => ∃ T x, v = .ref T ∧ H T = none ∧ H' = upd H T (.tup [.int (i : Nat), x]) ∧ ∀ xs, SqT K H a xs → xs[i]? = some x
  stop := fun i H => ∃ xs : List V, SqT K H a xs ∧ xs.length ≤ i
theorem walk_enumT {K : PySem.W.Frag} {a : Addr} {xs : List V} : Walk (IteT K a) xs.length (fun H => SqT K H a xs) (YPair (fun i => some (.int (i : Nat))) (fun i => xs[i]?)) where
  goes := fun i _ hi q => ⟨xs, xs[i], q, by simp [hi]⟩
  stops := fun _ q => ⟨xs, q, Nat.le_refl _⟩
  yields := fun i H v H' _ q y => by
    obtain ⟨T, x, h1, h2, h3, h4⟩ := y
    exact ⟨T, .int (i : Nat), x, h1, h2, h3, rfl, h4 xs q⟩
/-- the object of an enumerate over it, at its beginning -/
def enObj (it : Addr) : Obj := { cls := .type "enumerate", data := .fields #[.none, .bool false, .ref it, rawInt 0, .none, .none] }
theorem enum_newT (t : Addr) (items : Array Value) (n : Nat) (dct : Option Addr) (sl : Array (Option Value)) :
    Meets (Builtin.«enumerate.__new__» ⟨[.type "enumerate", .ref t], []⟩) (fun _ R s => s.heap.get? t = some ⟨.type "tuple", dct, .seq items n, sl⟩ ∧ R (.ok (.ret (.ref (s.heap.push (tiObj t)).objs.size))) { s with heap := (s.heap.push (tiObj t)).push (enObj s.heap.objs.size) }) :=
  .of_wp fun prog w A R s h => by
    obtain ⟨hp, g, d, tk, os⟩ := s
    obtain ⟨ht, h⟩ := h
    have hsub := sub_enumerate
    have hT : Heap.IsTuple (Shared.heap ⟨hp, g, d, tk, os⟩) t items := ⟨_, ht, rfl, n, rfl⟩
    wp_walk using wpAny_loadPart' ht
    refine wpAny_stack_any fun st => wpAny_pure ?_
    split
    · rename_i c _ _ _ _ _
      cases (c == Value.type "enumerate") <;> (wp_walk using wpAny_loadPart' ht, wpAny_pyIter_tuple hT; exact ⟨_, rfl, h⟩)
    · wp_walk using wpAny_loadPart' ht, wpAny_pyIter_tuple hT
      exact ⟨_, rfl, h⟩
section
variable {prog : Program} {w : World} {A : Around} {E : Value → Shared → Prop} {s : Shared}
theorem call_enumT {t : Addr} {items : Array Value} {Q : Value → Shared → Prop} (hT : s.heap.IsTuple t items)
    (h : ∀ h', IsEnum h' (s.heap.objs.size + 1) s.heap.objs.size 0 .none → h'.IsTupleIter s.heap.objs.size t 0 → (∀ b o, s.heap.get? b = some o → h'.get? b = some o) → Q (.ref (s.heap.objs.size + 1)) { s with heap := h' }) :
    wpAny (model prog w) A (call (.type "enumerate") [.ref t]) Q E s := by
  obtain ⟨⟨c, dct, dt, sl⟩, ht, hc, n, hd⟩ := hT
  simp only at hc hd
  subst hc hd
  refine callType_new F.called_enumerate (by decide) (F.typeCall_enumerate_1 _) (F.newCall_enumerate_1 _) (fun obj => F.args_object_init_2 obj _) F.entry_enumerate_new (enum_newT t items n dct sl) ⟨ht, ?_⟩
  have hz : (s.heap.push (tiObj t)).objs.size = s.heap.objs.size + 1 := Heap.size_push ..
  have he : IsEnum ((s.heap.push (tiObj t)).push (enObj s.heap.objs.size)) (s.heap.objs.size + 1) s.heap.objs.size 0 .none := by
    have q := Heap.get?_push_size (s.heap.push (tiObj t)) (o := enObj s.heap.objs.size) rfl
    rw [hz] at q
    exact q
  rw [hz]
  exact ⟨⟨_, he, rfl⟩, h _ he ⟨_, Heap.get?_push_of_some _ (Heap.get?_push_size _ rfl), rfl, rfl⟩ fun b o x => Heap.get?_push_of_some _ (Heap.get?_push_of_some _ x)⟩
end
theorem turn_enumT {P : Program} {w : World} {K : PySem.W.Frag} {elts : List Expr} {kk : Nat} {tpos : Pos} (t e it : Addr) (items : Array Value) :
    Turn P w K (.Tuple elts kk tpos) (IteT K t) [e, it] e (fun i h => (∃ old, IsEnum h e it ((i : Nat) : Int) old) ∧ h.IsTupleIter it t i ∧ e ≠ it ∧ t ≠ it ∧ t ≠ e) where
  mem := List.mem_cons_self
  obj := fun i h st b hb => by
    obtain ⟨⟨old, he⟩, ⟨o, ho, hc, hd⟩, _⟩ := st
    rw [List.mem_cons, List.mem_singleton] at hb
    rcases hb with z | z
    · exact z ▸ ⟨_, he, fun v q => nomatch q⟩
    · exact z ▸ ⟨o, ho, fun v q => by rw [hd] at q; cases q⟩
  keep := fun i h h' st k => by
    obtain ⟨⟨old, he⟩, hi, hne⟩ := st
    exact ⟨⟨old, k e List.mem_cons_self _ he⟩, hi.at fun o q => k it (List.mem_cons_of_mem _ List.mem_cons_self) o q, hne⟩
  item := by
    intro X hP hw hK hc i pins s σ H E I hf st hg
    subst hP hw hK
    obtain ⟨⟨old, he⟩, hit, hne, n1, n2⟩ := st
    obtain ⟨xs, x, hq, hx⟩ := hg
    obtain ⟨its, rv, p, hz⟩ := I.tuple hq
    obtain ⟨u, hu, ru⟩ := rv.get hx
    have lt : i < its.toArray.size := by
      have := (List.getElem?_eq_some_iff.mp hu).1
      simpa using this
    have le : e < s.heap.objs.size := Heap.lt_size he
    have li : it < s.heap.objs.size := by obtain ⟨_, q, _⟩ := hit; exact Heap.lt_size q
    have nf : e ∉ [it, t] := by
      rw [List.mem_cons, List.mem_singleton]
      exact fun z => z.elim hne fun z => n2 z.symm
    refine wpAny_pyNext_enum_itemD (Draws.tuple (A := X.A.in1) (by simpa using I.ok.hd hc) it t n1 its.toArray) he ⟨hit, p⟩ lt hne nf fun v h' tk hv ho hit' hT hsz hk => ?_
    obtain rfl : v = u := by
      have e1 : its.toArray[i]? = some u := by simpa using hu
      exact Option.some.inj (hv.symm.trans e1)
    refine ⟨_, rfl, wpAny_letOwnedTupleGo_enum (s := { s with heap := h', toks := tk + 1 }) ho fun h'' he' sb => ?_⟩
    have hT2 := (sb.2 _ (Nat.ne_of_gt le)).trans hT
    have new : ObjOk X.prog X.w (upd H s.heap.objs.size (.tup [.int (i : Nat), x])) h'' s.heap.objs.size (.tup [.int (i : Nat), x]) :=
      ⟨by show 2 ≤ sizeLine; decide, [.int i tk, v], .cons ⟨_, rfl⟩ (.cons ru .nil), ⟨_, hT2, rfl, _, rfl⟩⟩
    have I1 : Inv X pins σ (upd H s.heap.objs.size (.tup [.int (i : Nat), x])) { s with heap := h'', toks := tk + 1 } := by
      refine I.turnedNew (ch := [e, it]) (fun b ob hb q => ?_) hf (Nat.le_refl _) new
      rw [List.mem_cons, List.mem_singleton, not_or] at hb
      exact (sb.2 b hb.1).trans (hk b ob hb.1 hb.2 q)
    refine ⟨.ref s.heap.objs.size, _, I1, rfl, ⟨_, x, rfl, I.hok.fresh (Nat.le_refl _), rfl, fun ys hy => by rw [I.tuple_inj hy hq]; exact hx⟩, ⟨⟨v, ?_⟩, hit'.1.at fun o q => (sb.2 it (Ne.symm hne)).trans q, hne, n1, n2⟩, fun b hb => ?_⟩
    · have e1 : ((i + 1 : Nat) : Int) = (i : Int) + 1 := by omega
      rw [e1]
      exact he'
    · have lb : b < s.heap.objs.size := by
        rw [List.mem_cons, List.mem_singleton] at hb
        rcases hb with z | z
        · rw [z]; exact le
        · rw [z]; exact li
      rw [upd_ne (Nat.ne_of_lt lb)]
      exact (hf b hb).1
  done := by
    intro X hP hw hK hc i pins s σ H E I hf st hg
    subst hP hw hK
    obtain ⟨⟨old, he⟩, hit, hne, n1, n2⟩ := st
    obtain ⟨xs, hq, hx⟩ := hg
    obtain ⟨its, rv, p, hz⟩ := I.tuple hq
    obtain ⟨f0, f1, f2, f3, f4, f5⟩ := hf it (List.mem_cons_of_mem _ List.mem_cons_self)
    have none_ : its.toArray[i]? = none := by
      have hl := rv.length
      simp
      omega
    have D : Draws X.prog X.w X.A.in1 it [it, t] 0 (fun _ _ => False) (fun _ h => h.IsTupleIter it t i ∧ h.IsTuple t its.toArray) :=
      { live := fun _ _ st => let ⟨o, ho, _⟩ := st.1; ⟨o, ho⟩
        frame := fun _ _ _ st hk => ⟨st.1.at fun o e => hk it List.mem_cons_self o e, st.2.at fun o e => hk t (List.mem_cons_of_mem _ List.mem_cons_self) o e⟩
        item := fun _ _ _ _ z => absurd z (Nat.not_lt_zero _)
        done := fun s Q E st hE => wpAny_nextOf_tuple_end (by simpa using I.ok.hd hc) st.1 st.2 none_ hE }
    exact wpAny_pyNext_enum_endD D he ⟨hit, p⟩ fun h' eb => ⟨rfl, I.turned (t' := s.toks) (fun b o hb q => eb b o hb q) f0 f1 f3 f4 f5⟩
  self := fun A i s Q E st h => by
    obtain ⟨⟨_, he⟩, _⟩ := st
    exact wpAny_pyIter_enum he h
def iEnumT (K : PySem.W.Frag) (ta : TA) : TI := fun σ H R => ta σ H fun vs H1 => ∃ a xs, vs = [.ref a] ∧ SqT K H1 a xs ∧ R (IteT K a) H1
theorem pi_enumT {X : Cx} {e : Expr} {ta : TA} {p pos tpos : Pos} {elts : List Expr} {kk : Nat} (hg : Gl X "enumerate") (hm : X.mg "enumerate" = none) (ha : PA X [e] ta) (hs : starEach [e] X.env = [(false, eval e X.env)] := by rfl) :
    PI X (.Tuple elts kk tpos) (.Call (.Name "enumerate" p) [e] [] pos) (iEnumT X.K ta) := by
  refine ⟨fun pins s σ H R I h => Call_ (ld_blt I hg hm boot_enumerate (PyProof.Rows.callWith_type1 (thn (ha.run pos pins s σ H _ I h) fun us s1 ⟨vs, H1, I1, r1, a, xs, ex, hq, q⟩ => ?_) hs rfl))⟩
  subst ex
  obtain rfl := Vals.ref1 r1
  obtain ⟨its, rv, pt, hz⟩ := I1.tuple hq
  have la : a < s1.heap.objs.size := by obtain ⟨o, ho, _⟩ := pt; exact Heap.lt_size ho
  refine call_enumT pt fun h' he hit hk => wpAny_pyIter_enum he ?_
  refine ⟨s1.heap.objs.size + 1, [s1.heap.objs.size + 1, s1.heap.objs.size], _, _, H1, rfl, I1.kept (t' := s1.toks) hk, turn_enumT a (s1.heap.objs.size + 1) s1.heap.objs.size its.toArray, ⟨⟨.none, he⟩, hit, Nat.succ_ne_self _, Nat.ne_of_lt la, Nat.ne_of_lt (Nat.lt_succ_of_lt la)⟩, fun b hb => ?_, q⟩
  have hle : s1.heap.objs.size ≤ b := by
    rw [List.mem_cons, List.mem_singleton] at hb
    rcases hb with z | z
    · exact z ▸ Nat.le_succ _
    · exact z ▸ Nat.le_refl _
  exact I1.fpOk hle (I1.hok.fresh hle)
end El

set_option Elab.async false
set_option linter.all false
set_option maxRecDepth 100000
set_option maxHeartbeats 4000000
/-! Own words: a list or a tuple walked; own classes made, read by [..] inside a try; own exceptions without arguments. -/
namespace El
open PySem PySem.Spec PyProof.Rows L2 NdefX
section
variable {X : Cx} {tg l : Expr} {tl : TE}
def iSeq (K : PySem.W.Frag) (tl : TE) : TI := fun σ H R => tl σ H fun x H1 => ∃ a xs, x = .ref a ∧ ((SqL K H1 a xs ∧ R (Itl K a) H1) ∨ (SqT K H1 a xs ∧ R (Itt K a) H1))
theorem pi_seq (hl : PE X l tl) : PI X tg l (iSeq X.K tl) := by
  refine ⟨fun pins s σ H R I h => thn (hl.run pins s σ H _ I h) fun v s1 ⟨x, H1, I1, r1, a, xs, ex, q⟩ => ?_⟩
  subst ex
  obtain rfl : v = Value.ref a := r1
  have new : ∀ b ∈ [s1.heap.objs.size], FpOk X pins H1 b := fun b hb => by
    rw [List.mem_singleton] at hb
    exact hb ▸ I1.fpOk (Nat.le_refl _) (I1.hok.fresh (Nat.le_refl _))
  rcases q with ⟨hq, q⟩ | ⟨hq, q⟩
  · obtain ⟨its, rv, p, _⟩ := I1.list hq
    exact wpAny_pyIter_list p.isList ⟨_, _, _, _, H1, rfl, I1.kept (t' := s1.toks) fun b o e => Heap.get?_push_of_some _ e, turn_list a _, ⟨_, Heap.get?_push_size _ rfl, rfl, rfl⟩, new, q⟩
  · obtain ⟨its, rv, p, _⟩ := I1.tuple hq
    exact wpAny_pyIter_tuple p ⟨_, _, _, _, H1, rfl, I1.kept (t' := s1.toks) fun b o e => Heap.get?_push_of_some _ e, turn_tuple a _, ⟨_, Heap.get?_push_size _ rfl, rfl, rfl⟩, new, q⟩
end
theorem pi_seqK {X : Cx} {tg l : Expr} {tl : TE} (K : PySem.W.Frag) (hl : PE X l tl) (h : X.K = K := by rfl) : PI X tg l (iSeq K tl) := h ▸ pi_seq hl
section
variable {X : Cx} {CX : CXT} {k : Nat} {C f : Addr} {fd : FuncData} {ps : List Str} {ds : List Value} {dvs : List V} {sp : Sp} {E : L2.St → XK} {x : Str} {p pos : Pos} {a b e : Expr} {es : List Expr} {ta tb : TE} {t : TA}
/-- C(e, ..), what its __init__ lets out being taken where it stands -/
def tMakeS (C : Addr) (sp : Sp) (E : L2.St → XK) (t : TA) : TE := fun σ H Q => t σ H fun vs H1 => ∀ x dx, H1 x = none → H1 dx = none → dx ≠ x → sp (.ref x :: vs) (upd (upd H1 dx (.own x)) x (.ins C dx [])) (fun v H2 => v = .non ∧ Q (.ref x) H2) (E σ)
theorem run_makeS {pins : List (Addr × Obj)} {σ : L2.St} {H : Hp} {s : Shared} {Q : VK} {us : List Value} {vs : List V} {E : XK} (M : Mk X.K C f) (F : FnOk X.prog X.w X.K X.mg X.base CX k f fd ps sp) (hr : Room (k + 1) X.A) (hb : Binds X.K fd ps [])
    (hx : PassesAt CX X σ E) (I : Inv X pins σ H s) (r : Vals vs us)
    (h : ∀ x dx, H x = none → H dx = none → dx ≠ x → sp (.ref x :: vs) (upd (upd H dx (.own x)) x (.ins C dx [])) (fun v H2 => v = .non ∧ Q (.ref x) H2) E) : wpAny (model X.prog X.w) X.A (call (.ref C) us) (EP X pins σ Q) X.xe s := by
  have fresh := fun n hn => I.hok.fresh (a := n) hn
  have q := h (s.heap.objs.size + 1) s.heap.objs.size (fresh _ (Nat.le_succ _)) (fresh _ (Nat.le_refl _)) (Nat.ne_of_lt (Nat.lt_succ_self _))
  have J := Inv.made (C := C) I
  have rr : Vals (V.ref (s.heap.objs.size + 1) :: vs) (Value.ref (s.heap.objs.size + 1) :: us) := .cons rfl r
  have hl : (Value.ref (s.heap.objs.size + 1) :: us ++ []).length = ps.length := by rw [List.append_nil, ← rr.length]; exact F.len _ _ _ _ q
  have bt := hb _ (Value.ref (s.heap.objs.size + 1) :: us) J.kIn hl
  rw [List.append_nil] at bt
  refine wpAny_call (make_map (f := f) I.kIn M.makes M.init (beq_iff_eq.mp M.fn) (codeAny_mono (F.run _ X.stack _ _ ⟨Value.ref (s.heap.objs.size + 1) :: us, []⟩ _ _ _ E (hr.make C us []) (J.env0.make C us []) bt rr q) fun r s' hs => ?_))
  match r, hs with
  | .error e, hs => exact hx pins _ _ e s' J hs
  | .ok (.ret u), hs =>
    obtain ⟨v, H', J', rv, ev, q'⟩ := J.after hs
    subst ev
    exact ⟨rv, V.ref (s.heap.objs.size + 1), H', J', rfl, q'⟩
  | .ok .next, hs => exact False.elim hs
  | .ok .brk, hs => exact False.elim hs
  | .ok .cont, hs => exact False.elim hs
theorem pe_makeS (M : Mk X.K C f) (F : FnOk X.prog X.w X.K X.mg X.base CX k f fd ps sp) (hr : Room (k + 1) X.A) (hg : Gl X x) (hm : X.mg x = some (.ref C)) (hb : Binds X.K fd ps []) (hx : ∀ σ, PassesAt CX X σ (E σ)) (ha : PA X (e :: es) t)
    (hdb : (x == ("__debug__" : Str)) = false := by decide) (he : starEach (e :: es) X.env = (false, eval e X.env) :: starEach es X.env := by rfl) (hpl : (backTo pos (starEach es X.env)).any (·.1) = false := by rfl) :
    PE X (.Call (.Name x p) (e :: es) [] pos) (tMakeS C sp E t) := by
  refine ⟨fun pins s σ H Q I h => wpAny_Call_Name_kw (ld_glob I hg hm ?_ hdb)⟩
  refine PySem.W.callWith_K (h₀ := X.base) I.ok.mod.kin M.kp (thn (ha.run pos pins s σ H _ I h) fun us s1 ⟨vs, H1, I1, r, q⟩ => ⟨I1.kIn, ?_⟩) he hpl
  exact run_makeS M F hr hb (hx σ) I1 r q
/-- an own class's `__getitem__`, as it is read by [..] -/
structure SubC (K : PySem.W.Frag) (C f : Addr) : Prop where
  at_ : PySem.W.findIn K (.ref C) "__getitem__" = some (some (.ref f))
  fn : PySem.W.isFn K (.ref f) = true
  fi : PySem.W.fnIn K f = true
/-- a[y], a of the class at C, what it lets out being taken where it stands -/
def tItS (C : Addr) (sp : Sp) (E : L2.St → XK) (ta tb : TE) : TE := fun σ H Q => ta σ H fun x H1 => tb σ H1 fun y H2 => ∃ a dx fs, x = .ref a ∧ H2 a = some (.ins C dx fs) ∧ sp [.ref a, y] H2 Q (E σ)
theorem pe_itS (c : SubC X.K C f) (F : FnOk X.prog X.w X.K X.mg X.base CX k f fd ps sp) (hr : Room (k + 1) X.A) (hb : Binds X.K fd ps []) (hx : ∀ σ, PassesAt CX X σ (E σ)) (ha : PE X a ta) (hb2 : PE X b tb)
    (hs : ∀ o i, subscripted b true o i = runValue (.builtin "lifetime.subscript" ⟨[o, i], []⟩) := by intro _ _; rfl) : PE X (.Subscript a b pos) (tItS C sp E ta tb) := by
  refine ⟨fun pins s σ H Q I h => Subscript_ (binT ha hb2 I (R := fun x y H2 => ∃ a dx fs, x = .ref a ∧ H2 a = some (.ins C dx fs) ∧ sp [.ref a, y] H2 Q (E σ)) h fun v u s2 x y H2 I2 rx ry q => ?_)⟩
  obtain ⟨a, dx, fs, rfl, ea, q⟩ := q
  obtain rfl : v = Value.ref a := rx
  obtain ⟨m, fr⟩ := I2.fr
  obtain ⟨mA, O, _⟩ := ins_get I2.hok ea
  obtain ⟨od, J, _⟩ := O.look
  refine PySem.W.sub_K fr I2.ok.mod.kin J c.at_ c.fi c.fn ?_ (hs _ _)
  have hl : ([Value.ref a, u] ++ []).length = ps.length := F.len _ _ _ _ q
  have bt := hb s2 [.ref a, u] I2.kIn hl
  rw [List.append_nil] at bt
  refine wpAny_call (codeAny_mono (F.run X.A.in1 X.stack s2 H2 ⟨[.ref a, u], []⟩ [.ref a, u] [.ref a, y] Q (E σ) hr.in1 I2.env0.in1 bt (.cons rfl (.cons ry .nil)) q) fun r s' hq => ?_)
  match r, hq with
  | .error e, hq => exact hx σ pins H2 s2 e s' I2 hq
  | .ok (.ret u), hq => exact I2.after hq
  | .ok .next, hq => exact False.elim hq
  | .ok .brk, hq => exact False.elim hq
  | .ok .cont, hq => exact False.elim hq
end
section
variable {X : Cx} {CX : CXT} {k : Nat} {C f : Addr} {fd : FuncData} {ps : List Str} {sp : Sp} {E : XK} {pos : Pos} {a b : Expr} {ta tb : TE}
theorem pe_itO (c : SubC X.K C f) (F : FnOk X.prog X.w X.K X.mg X.base CX k f fd ps sp) (hr : Room (k + 1) X.A) (hb : Binds X.K fd ps []) (hx : Passes CX X E) (ha : PE X a ta) (hb2 : PE X b tb)
    (hs : ∀ o i, subscripted b true o i = runValue (.builtin "lifetime.subscript" ⟨[o, i], []⟩) := by intro _ _; rfl) : PE X (.Subscript a b pos) (tItS C sp (fun _ => E) ta tb) :=
  pe_itS c F hr hb (fun σ pins H s e s' I h => hx pins σ H s e s' I h) ha hb2 hs
end
/-! ### an own exception made without arguments -/
section
variable {X : Cx} {p pos : Pos}
theorem pmk_oex0 {CX : CXT} {x : Str} {C fI : Addr} {k : Nat} {fd : FuncData} {ps : List Str} {sp : Sp} (T : OexC X.K C) (iC : PySem.W.findIn X.K (.ref C) "__init__" = some (some (.ref fI))) (tI : PySem.W.typeIn X.K (.ref fI) = some (.type "function"))
    (F1 : FnOk X.prog X.w X.K X.mg X.base CX k fI fd ps sp) (hr : Room (k + 1) X.A) (hb : Binds X.K fd ps []) (hx : Passes CX X (fun _ _ _ => False)) (hg : Gl X x) (hm : X.mg x = some (.ref C)) (hdb : (x == ("__debug__" : Str)) = false := by decide) :
    PMk X (.Call (.Name x p) [] [] pos) (tMkO C sp [] tNil) := by
  intro pins s σ H Q I h
  obtain ⟨nm, q, N, bs, bm, sn, sub, ab, col, dd, k0, k1, k2, k3, k5, hC, hbm⟩ := T.cls
  refine wpAny_Call_Name_kw (ld_glob I hg hm ?_ hdb)
  refine PySem.W.callWith_K0 I.kIn T.kC ?_
  obtain ⟨_, q1⟩ := h
  obtain ⟨hp, g, dr, tk, os⟩ := s
  have up : hp.objs.size ≤ hp.objs.size + 1 := Nat.le_succ _
  have hq := q1 (hp.objs.size + 1) (I.hok.fresh up)
  have stay : ∀ b o, hp.get? b = some o → ((hp.push (PySem.W.kdv_tup [])).push (PySem.HandSPX.excO C hp.objs.size)).get? b = some o := fun b o e => Heap.get?_push_of_some _ (Heap.get?_push_of_some _ e)
  have there : ((hp.push (PySem.W.kdv_tup [])).push (PySem.HandSPX.excO C hp.objs.size)).get? (hp.objs.size + 1) = some (PySem.HandSPX.excO C hp.objs.size) := by heap_get
  have I2 := I.laid (t' := tk) (a := hp.objs.size + 1) (o := exo (hp.objs.size + 1) C none) (h' := (hp.push (PySem.W.kdv_tup [])).push (PySem.HandSPX.excO C hp.objs.size)) stay up (exo_ok there)
  have hl : ([Value.ref (hp.objs.size + 1)] ++ []).length = ps.length := F1.len _ _ _ _ hq
  refine wpAny_call (PySem.HandSPX.call_own F.excBase_ValueError (fun Y => PySem.HandSPX.refsVE_contains Y bm hbm) (I.kIn _ _ hC) (PySem.W.looks_findIn I.kIn iC) (fun self => PySem.W.bind_fn I.kIn self tI) (Nat.zero_le _)
    (codeAny_mono (F1.run _ X.stack _ _ ⟨[Value.ref (hp.objs.size + 1)], []⟩ [Value.ref (hp.objs.size + 1)] _ _ (fun _ _ _ => False) (hr.make C [] []) (I2.env0.make C [] []) (hb _ [Value.ref (hp.objs.size + 1)] I2.kIn hl) (show Vals [V.ref (hp.objs.size + 1)] [Value.ref (hp.objs.size + 1)] from .cons rfl .nil) hq) fun r s' hs => ?_))
  match r, hs with
  | .error er, hs => exact hx pins σ _ _ er s' I2 hs
  | .ok (.ret u), hs =>
    obtain ⟨v, H2, os2, bare2, un2, hok2, rv, ev, d, fs, ea, ed, hd1, q2⟩ := hs
    subst ev
    obtain ⟨h2, g2, d2, t2, os'⟩ := s'
    exact ⟨rv, mk_end (raises_own T.exC T.tyC) I up stay un2 hok2 os2 bare2 ea ed hd1 q2⟩
  | .ok .next, hs => exact False.elim hs
  | .ok .brk, hs => exact False.elim hs
  | .ok .cont, hs => exact False.elim hs
end
/-! ### lists turned round, places of items -/
theorem mt_reverseL {X : Cx} : MtM X "list.reverse" (fun x vs H Q => ∃ l xs, x = .ref l ∧ vs = [] ∧ H l = some (.lst xs) ∧ Q .non (upd H l (.lst xs.reverse))) := by
  intro pins s σ H x vs v us Q I rx rv h
  obtain ⟨l, xs, rfl, rfl, hH, q⟩ := h
  obtain rfl : v = Value.ref l := rx
  obtain rfl := rv.zero
  obtain ⟨z, its, n, r, hl, e⟩ := I.lstM hH
  have few : its.length ≤ sizeLine := by rw [← r.length]; omega
  refine call_meets F.slot_list_reverse ⟨_, e, rfl⟩ F.entry_list_reverse (F.args_list_reverse_1 _) (AutoSeq1.list_reverse_list_0 l its.toArray n (by simpa using few)) ⟨e, ?_⟩
  exact ⟨.non, _, I.lset (its' := its.reverse) (ys := xs.reverse) hH e (by simp) r.reverse (by rw [List.length_reverse]; omega), rfl, q⟩
theorem mindexK {X : Cx} (K : PySem.W.Frag) (h : X.K = K := by rfl) : MtR X "list.index" (rIndex K) := h ▸ mt_index
theorem mtupK {X : Cx} (K : PySem.W.Frag) (h : X.K = K := by rfl) : MtR X "tuple.index" (fun x xs H Q => ∃ p, ∃ ys : List Str, ∃ z j, x = .ref p ∧ xs = [.str z] ∧ SqT K H p (ys.map V.str) ∧ ys[j]? = some z ∧ (∀ m, m < j → ys[m]? ≠ some z) ∧ Q (.int (j : Nat)) H) := h ▸ mt_tup_index
/-! ### defs of own classes, ready to be called -/
structure CalIn (P : Program) (w : World) (K : PySem.W.Frag) (mg : Str → Option Value) (base : Heap) (CX : CXT) (k : Nat) (C f : Addr) (fd : FuncData) (ps : List Str) (sp : Sp) : Prop extends CalB P w K mg base CX k f fd ps sp where
  ic : InC K C f
structure CalSub (P : Program) (w : World) (K : PySem.W.Frag) (mg : Str → Option Value) (base : Heap) (CX : CXT) (k : Nat) (C f : Addr) (fd : FuncData) (ps : List Str) (sp : Sp) : Prop extends CalB P w K mg base CX k f fd ps sp where
  su : SubC K C f
structure CalIt (P : Program) (w : World) (K : PySem.W.Frag) (mg : Str → Option Value) (base : Heap) (CX : CXT) (k : Nat) (C f : Addr) (sp : Nat → Sp) : Prop where
  F : FnS P w K mg base CX k f sp
  oi : OitC K C f
end El

set_option Elab.async false
set_option linter.all false
set_option maxRecDepth 100000
set_option maxHeartbeats 4000000
/-! Own words: an own exception whose __init__ takes nothing and keeps nothing. -/
namespace El
open PySem PySem.Spec PyProof.Rows L2 NdefX
/-- its __init__ -/
def spE0 (C : Addr) : Sp := fun vs H Q _ => ∃ a : Addr, vs = [.ref a] ∧ H a = some (exo a C none) ∧ Q .non H
/-- the end of C(): the exception is let go -/
theorem mk_none {X : Cx} {pins : List (Addr × Obj)} {σ : L2.St} {H1 : Hp} {Q : XK} {hp hp2 h2 : Heap} {g1 g2 : Array GenState} {d1 d2 : Drawn} {t1 t2 : Nat} {os1 os2 : OsState} {a C : Addr} (T : Raises X (.ref C)) (I1 : Inv X pins σ H1 ⟨hp, g1, d1, t1, os1⟩)
    (ha : hp.objs.size ≤ a) (k : ∀ b o, hp.get? b = some o → hp2.get? b = some o) (un : Un (frs X.stack) [] (upd H1 a (exo a C none)) (upd H1 a (exo a C none)) hp2 h2) (hok : HOk X.prog X.w (upd H1 a (exo a C none)) h2) (ho : os2 = os1) (hb : AllBare g2)
    (q : Q (.ref C) none H1) : MkP X pins σ Q (.ref a) ⟨h2, g2, d2, t2, os2⟩ := by
  have ea : (upd H1 a (exo a C none)) a = some (exo a C none) := upd_same
  obtain ⟨t0, hoe⟩ := exo_at hok ea
  have na : H1 a = none := I1.hok.fresh ha
  obtain ⟨G, g1', g2'⟩ := restrict h2 fun b => decide (b ≠ a)
  have gk : ∀ {b}, b ≠ a → G.get? b = h2.get? b := fun {b} z => g1' b (decide_eq_true z)
  have ge : G.get? a = none := g2' a (by simp)
  have old : ∀ {b : Addr} {o : Obj}, hp.get? b = some o → b ≠ a := fun {b o} z => Nat.ne_of_lt (Nat.lt_of_lt_of_le (Heap.lt_size z) ha)
  have up : ∀ {b : Addr}, b ≠ a → H1 b = none → upd H1 a (exo a C none) b = none := fun {b} z n => by rw [upd_ne z]; exact n
  have U : Un (frs X.stack) [] H1 H1 hp G :=
    { keep := fun b o z n hf hx => (gk (old z)).trans (un.keep b o (k b o z) (up (old z) n) hf hx)
      slot := fun b o z n hf hx => by
        rw [gk (old z)]
        exact un.slot b o (k b o z) (up (old z) n) hf hx
      free := fun b o z n hx => n
      there := fun b o z hx => by
        rw [gk (old z)]
        exact un.there b o (k b o z) hx
      tups := fun b xs z => z
      frzs := fun b o v z => z
      tbls := fun b ps z => ⟨#[], by rw [Array.append_empty]; exact z⟩ }
  have own_ne : ∀ {b c : Addr}, upd H1 a (exo a C none) c = some (.own b) → c ≠ a := fun {b c} z => at_ne ea z exo_own
  have hok3 : HOk X.prog X.w H1 G := fun b o z => by
    have hba : b ≠ a := fun e => by rw [e, na] at z; cases z
    refine (hok b o (by rw [upd_ne hba]; exact z)).stay (fun c v hc y => ?_) (fun c hc => ?_) (fun c xs hc => ?_)
    · have hca : c ≠ a := hc.elim (fun e => e ▸ hba) fun e => own_ne e
      exact (gk hca).trans y
    · have := own_ne hc
      rwa [upd_ne this] at hc
    · have := at_ne ea hc exo_tup
      rwa [upd_ne this] at hc
  have J : Inv X pins σ H1 ⟨G, g2, d2, t2, os2⟩ := I1.call' (ch := []) ho U hok3 hb (fun b z => absurd z (by simp))
  refine ⟨a, _, _, ⟨G, g2, d2, t2, os2⟩, _, .ref C, none, rfl, J, fun b o z => ?_, ge, hoe, ⟨rfl, rfl⟩, rfl, rfl, na, rfl, hb, T, q⟩
  by_cases hba : b = a
  · rw [hba, ge] at z
    cases z
  · exact (gk hba).symm.trans z
section
variable {X : Cx} {p pos : Pos}
theorem pmk_none {CX : CXT} {x : Str} {C fI : Addr} {k : Nat} {fd : FuncData} {ps : List Str} (T : OexC X.K C) (iC : PySem.W.findIn X.K (.ref C) "__init__" = some (some (.ref fI))) (tI : PySem.W.typeIn X.K (.ref fI) = some (.type "function"))
    (F1 : FnOk X.prog X.w X.K X.mg X.base CX k fI fd ps (spE0 C)) (hr : Room (k + 1) X.A) (hb : Binds X.K fd ps []) (hx : Passes CX X (fun _ _ _ => False)) (hg : Gl X x) (hm : X.mg x = some (.ref C)) (hdb : (x == ("__debug__" : Str)) = false := by decide) :
    PMk X (.Call (.Name x p) [] [] pos) (fun _ H Q => Q (.ref C) none H) := by
  intro pins s σ H Q I h
  obtain ⟨nm, q, N, bs, bm, sn, sub, ab, col, dd, k0, k1, k2, k3, k5, hC, hbm⟩ := T.cls
  refine wpAny_Call_Name_kw (ld_glob I hg hm (PySem.W.callWith_K0 I.kIn T.kC ?_) hdb)
  obtain ⟨hp, g, dr, tk, os⟩ := s
  have up : hp.objs.size ≤ hp.objs.size + 1 := Nat.le_succ _
  have hq : spE0 C [V.ref (hp.objs.size + 1)] (upd H (hp.objs.size + 1) (exo (hp.objs.size + 1) C none)) (fun v H2 => v = .non ∧ H2 = upd H (hp.objs.size + 1) (exo (hp.objs.size + 1) C none)) (fun _ _ _ => False) := ⟨_, rfl, upd_same, rfl, rfl⟩
  have stay : ∀ b o, hp.get? b = some o → ((hp.push (PySem.W.kdv_tup [])).push (PySem.HandSPX.excO C hp.objs.size)).get? b = some o := fun b o e => Heap.get?_push_of_some _ (Heap.get?_push_of_some _ e)
  have there : ((hp.push (PySem.W.kdv_tup [])).push (PySem.HandSPX.excO C hp.objs.size)).get? (hp.objs.size + 1) = some (PySem.HandSPX.excO C hp.objs.size) := by heap_get
  have I2 := I.laid (t' := tk) (a := hp.objs.size + 1) (o := exo (hp.objs.size + 1) C none) (h' := (hp.push (PySem.W.kdv_tup [])).push (PySem.HandSPX.excO C hp.objs.size)) stay up (exo_ok there)
  have hl : ([Value.ref (hp.objs.size + 1)] ++ []).length = ps.length := F1.len _ _ _ _ hq
  refine wpAny_call (PySem.HandSPX.call_own F.excBase_ValueError (fun Y => PySem.HandSPX.refsVE_contains Y bm hbm) (I.kIn _ _ hC) (PySem.W.looks_findIn I.kIn iC) (fun self => PySem.W.bind_fn I.kIn self tI) (Nat.zero_le _)
    (codeAny_mono (F1.run _ X.stack _ _ ⟨[Value.ref (hp.objs.size + 1)], []⟩ [Value.ref (hp.objs.size + 1)] _ _ (fun _ _ _ => False) (hr.make C [] []) (I2.env0.make C [] []) (hb _ [Value.ref (hp.objs.size + 1)] I2.kIn hl) (show Vals [V.ref (hp.objs.size + 1)] [Value.ref (hp.objs.size + 1)] from .cons rfl .nil) hq) fun r s' hs => ?_))
  match r, hs with
  | .error er, hs => exact hx pins σ _ _ er s' I2 hs
  | .ok (.ret u), hs =>
    obtain ⟨v, H2, os2, bare2, un2, hok2, rv, ev, eH⟩ := hs
    subst ev eH
    obtain ⟨h2, g2, d2, t2, os'⟩ := s'
    exact ⟨rv, mk_none (raises_own T.exC T.tyC) I up stay un2 hok2 os2 bare2 h⟩
  | .ok .next, hs => exact False.elim hs
  | .ok .brk, hs => exact False.elim hs
  | .ok .cont, hs => exact False.elim hs
end
/-- the class, its __init__, ready for a raise -/
structure CalE0 (P : Program) (w : World) (K : PySem.W.Frag) (mg : Str → Option Value) (base : Heap) (k : Nat) (x : Str) (C f : Addr) (fd : FuncData) (ps : List Str) : Prop where
  G : FnOk P w K mg base CX0 k f fd ps (spE0 C)
  b : Binds K fd ps []
  X : ExK K C f []
  m : mg x = some (.ref C)
/-- isinstance(e, c), e the exception that the suite holds, without a dict -/
theorem call_isN {X : Cx} {a : Addr} {oe : Obj} {cls : Value} {d : Option Addr} {pn : List (Addr × Obj)} (hz : Zc cls d oe) (hf : ∃ vs, oe.data = .fields vs) : CallR (X.suite a ((a, oe) :: pn)) (.builtin "isinstance") (fun xs H Q => rIsX X.K cls d a xs H Q ∨ ∃ (D : Addr) (c : V) (cv : Value) (b : Bool), xs = [.ref a, c] ∧ cls = .ref D ∧ d = none ∧ ExcC X.K D ∧ (∀ u, RelV c u → u = cv) ∧ PySem.W.kitOne X.K (.ref D) cv = some b ∧ Q (.bl b) H) := by
  intro pins s σ H xs us Q I r h
  rcases h with h | ⟨D, c, cv, b, rfl, rfl, rfl, C, hcv, e, q⟩
  · exact call_isX hz hf pins s σ H xs us Q I r h
  cases r with
  | cons rx rr =>
    cases rr with
    | cons rt rr =>
      cases rr
      cases rx
      have ec := hcv _ rt
      subst ec
      obtain ⟨hget, _⟩ := I.pin (a, oe) (List.mem_append.mpr (.inl List.mem_cons_self))
      obtain ⟨vs, hv⟩ := hf
      have J : PySem.W.InstAt s.heap a oe D none := ⟨hget, hz.1, by unfold PySem.W.notCls; rw [hv] <;> rfl, by rw [hz.2]; exact trivial⟩
      obtain ⟨cdD, hcD, _⟩ := PySem.W.any_some C.hd
      exact PySem.W.kia_one (PySem.W.kitx_exc (by rw [hcD]; rfl) C.hg C.hk C.hs C.ha C.hn C.ht C.hm) I.kIn J e (fun z => nomatch z) fun tk => ⟨.bl b, H, I.kept (t' := tk) fun _ _ z => z, rfl, q⟩
end El

set_option Elab.async false
set_option linter.all false
set_option maxRecDepth 100000
set_option maxHeartbeats 4000000
/-! Own words: comprehensions with two clauses, walk in walk. -/
namespace El
open PySem PySem.Spec PyProof.Rows L2
/-- the second clause's loop, from which Nx is reached -/
def Inner2 (J1 : It) (g1 : TG) (tt1 : TT) (te : TE) (σ2 : L2.St) (vs1 : List Nat) (D : Addr) (Nx : Hp → Prop) (H4 : Hp) : Prop :=
  ∃ W1 : Nat → Nat → Hp → Prop, (∃ m, W1 0 m H4) ∧ ∀ j k H, W1 j k H → (J1.stop j H ∧ Nx H) ∨ (J1.go j H ∧ ∃ Nx1 : Hp → Prop, (∀ H', Nx1 H' → ∃ k', k' < k ∧ W1 (j + 1) k' H') ∧ ∀ x H', J1.yld j H x H' → g1 x (wipe σ2 vs1) H' fun σ3 H5 => wipe σ3 vs1 = wipe σ2 vs1 ∧ tt1 σ3 H5 fun b H6 =>
    if b = true then te σ3 H6 fun y H7 => ∃ acc, H7 D = some (.lst acc) ∧ acc.length < sizeLine ∧ Nx1 (upd H7 D (.lst (acc ++ [y]))) else Nx1 H6)
theorem inner2_it {J1 : It} {n : Nat} {G : Hp → Prop} {Y : Nat → Hp → V → Hp → Prop} (w : Walk J1 n G Y) {g1 : TG} {tt1 : TT} {te : TE} {σ2 : L2.St} {vs1 : List Nat} {D : Addr} {Nx : Hp → Prop} {H4 : Hp} (Pv : Nat → Hp → Prop) (h0 : Pv 0 H4) (hG : ∀ j H, j ≤ n → Pv j H → G H)
    (hs : ∀ j x H H', j < n → Pv j H → Y j H x H' → g1 x (wipe σ2 vs1) H' fun σ3 H5 => wipe σ3 vs1 = wipe σ2 vs1 ∧ tt1 σ3 H5 fun b H6 =>
      if b = true then te σ3 H6 fun y H7 => ∃ acc, H7 D = some (.lst acc) ∧ acc.length < sizeLine ∧ Pv (j + 1) (upd H7 D (.lst (acc ++ [y]))) else Pv (j + 1) H6)
    (hd : ∀ H, Pv n H → Nx H) : Inner2 J1 g1 tt1 te σ2 vs1 D Nx H4 := by
  refine ⟨fun j k H => k = n - j ∧ j ≤ n ∧ Pv j H, ⟨n, by simp, Nat.zero_le _, h0⟩, ?_⟩
  rintro j k H ⟨rfl, hj, p⟩
  have q := hG j H hj p
  by_cases e : j < n
  · exact .inr ⟨w.goes j H e q, Pv (j + 1), fun H' p' => ⟨n - (j + 1), by omega, rfl, e, p'⟩, fun x H' y => hs j x H H' e p (w.yields j H x H' e q y)⟩
  · obtain rfl : j = n := by omega
    exact .inl ⟨w.stops H q, hd H p⟩
theorem lc2_it {J : It} {n : Nat} {G : Hp → Prop} {Y : Nat → Hp → V → Hp → Prop} (w : Walk J n G Y) {g : TG} {tt : TT} {wi1 : TI} {g1 : TG} {tt1 : TT} {te : TE} {vs vs1 : List Nat} {σ : L2.St} {H1 : Hp} {D : Addr} {Qd : Hp → Prop} (Pv : Nat → Hp → Prop) (h0 : Pv 0 (upd H1 D (.lst []))) (hG : ∀ i H, i ≤ n → Pv i H → G H)
    (hs : ∀ i x H H', i < n → Pv i H → Y i H x H' → g x (wipe σ vs) H' fun σ2 H2 => wipe σ2 vs = wipe σ vs ∧ tt σ2 H2 fun b H3 =>
      if b = true then wi1 σ2 H3 fun J1 H4 => Inner2 J1 g1 tt1 te σ2 vs1 D (Pv (i + 1)) H4 else Pv (i + 1) H3)
    (hd : ∀ H, Pv n H → Qd H) :
    ∃ W : Nat → Nat → Hp → Prop, (∃ m, W 0 m (upd H1 D (.lst []))) ∧ ∀ i m H, W i m H →
      (J.stop i H ∧ Qd H) ∨ (J.go i H ∧ ∃ Nx : Hp → Prop, (∀ H', Nx H' → ∃ m', m' < m ∧ W (i + 1) m' H') ∧ ∀ x H', J.yld i H x H' → g x (wipe σ vs) H' fun σ2 H2 => wipe σ2 vs = wipe σ vs ∧ tt σ2 H2 fun b H3 =>
        if b = true then wi1 σ2 H3 fun J1 H4 => Inner2 J1 g1 tt1 te σ2 vs1 D Nx H4 else Nx H3) := by
  refine ⟨fun i m H => m = n - i ∧ i ≤ n ∧ Pv i H, ⟨n, by simp, Nat.zero_le _, h0⟩, ?_⟩
  rintro i m H ⟨rfl, hi, p⟩
  have q := hG i H hi p
  by_cases e : i < n
  · exact .inr ⟨w.goes i H e q, Pv (i + 1), fun H' p' => ⟨n - (i + 1), by omega, rfl, e, p'⟩, fun x H' y => hs i x H H' e p (w.yields i H x H' e q y)⟩
  · obtain rfl : i = n := by omega
    exact .inl ⟨w.stops H q, hd H p⟩
/-- tuple(p), p a list or a tuple: a tuple of the same items stands behind it -/
theorem tupS {X : Cx} : CallR X (.type "tuple") (fun xs H Q => ∃ p ys, xs = [.ref p] ∧ (H p = some (.lst ys) ∨ H p = some (.tup ys)) ∧ ∀ H1 t, (∀ b o, H b = some o → H1 b = some o) → H1 t = some (.tup ys) → Q (.ref t) H1) := cwk call_tuple_of fun xs H Q q => by
  obtain ⟨p, ys, rfl, hp, q⟩ := q
  rcases hp with hp | hp
  · refine ⟨p, ys, rfl, .inl ⟨SqL.of hp, fun l nl => q _ l (fun b o hb => ?_) upd_same⟩⟩
    rw [upd_ne (fun e => by rw [e, nl] at hb; cases hb)]
    exact hb
  · exact ⟨p, ys, rfl, .inr ⟨SqT.of hp, q H p (fun _ _ h => h) hp⟩⟩
end El

set_option Elab.async false
set_option linter.all false
set_option maxRecDepth 100000
set_option maxHeartbeats 4000000
namespace K24
open PySem PySem.Spec PyProof.Rows L2 El NdefX
def topS (i : Nat) : Stmt := PySem.Challenge.pw_elseput_k24_order_of_names.main.body.getD i (.Pass ⟨0, 0, 0, 0⟩)
abbrev s_is_name : Stmt := topS 12
theorem sc_is_name : FnScope ["text", "letter"] ["text"] (defScope s_is_name) := ⟨rfl, rfl, rfl, by decide +kernel, rfl, by decide +kernel, by decide +kernel⟩

abbrev s_check_name : Stmt := topS 14
theorem sc_check_name : FnScope ["text"] ["text"] (defScope s_check_name) := ⟨rfl, rfl, rfl, by decide +kernel, rfl, by decide +kernel, by decide +kernel⟩

abbrev s__law_state : Stmt := topS 18
theorem sc__law_state : FnScope ["_law_script"] ["_law_script"] (defScope s__law_state) := ⟨rfl, rfl, rfl, by decide +kernel, rfl, by decide +kernel, by decide +kernel⟩

abbrev s__law_draw : Stmt := topS 19
theorem sc__law_draw : FnScope ["_law_state_here", "_law_many", "_law_first", "_law_second", "_law_third", "_law_digit"] ["_law_state_here", "_law_many"] (defScope s__law_draw) := ⟨rfl, rfl, rfl, by decide +kernel, rfl, by decide +kernel, by decide +kernel⟩

abbrev s__law_pick : Stmt := topS 20
theorem sc__law_pick : FnScope ["_law_state_here", "_law_row"] ["_law_state_here", "_law_row"] (defScope s__law_pick) := ⟨rfl, rfl, rfl, by decide +kernel, rfl, by decide +kernel, by decide +kernel⟩

abbrev s__law_mixed : Stmt := topS 21
theorem sc__law_mixed : FnScope ["_law_state_here", "_law_row", "_law_rest", "_law_result", "_law_k", "_law_at"] ["_law_state_here", "_law_row"] (defScope s__law_mixed) := ⟨rfl, rfl, rfl, by decide +kernel, rfl, by decide +kernel, by decide +kernel⟩

abbrev s__law_names : Stmt := topS 22
theorem sc__law_names : FnScope ["_law_state_here", "_law_many", "_law_letters", "_law_style", "_law_shift", "_law_code", "_law_spot", "_law_base", "_law_k", "_law_reserved", "_law_result", "_law_word"] ["_law_state_here", "_law_many"] (defScope s__law_names) := ⟨rfl, rfl, rfl, by decide +kernel, rfl, by decide +kernel, by decide +kernel⟩

abbrev s__law_is_int : Stmt := topS 23
theorem sc__law_is_int : FnScope ["_law_thing"] ["_law_thing"] (defScope s__law_is_int) := ⟨rfl, rfl, rfl, by decide +kernel, rfl, by decide +kernel, by decide +kernel⟩

abbrev s__law_same : Stmt := topS 24
theorem sc__law_same : FnScope ["_law_actual", "_law_due_here", "_law_k", "_law_key"] ["_law_actual", "_law_due_here"] (defScope s__law_same) := ⟨rfl, rfl, rfl, by decide +kernel, rfl, by decide +kernel, by decide +kernel⟩

abbrev s__law_bad_name : Stmt := topS 25
theorem sc__law_bad_name : FnScope ["_law_state_here", "_law_good", "_law_kind", "_law_reserved", "_law_spot"] ["_law_state_here", "_law_good"] (defScope s__law_bad_name) := ⟨rfl, rfl, rfl, by decide +kernel, rfl, by decide +kernel, by decide +kernel⟩

abbrev s__law_try : Stmt := topS 26
theorem sc__law_try : FnScope ["_law_row", "e", "_law_order", "_law_thing", "_law_kinds"] ["_law_row"] (defScope s__law_try) := ⟨rfl, rfl, rfl, by decide +kernel, rfl, by decide +kernel, by decide +kernel⟩

abbrev s__law_due : Stmt := topS 27
theorem sc__law_due : FnScope ["_law_row", "_law_names_here", "_law_name", "_law_k"] ["_law_row", "_law_names_here"] (defScope s__law_due) := ⟨rfl, rfl, rfl, by decide +kernel, rfl, by decide +kernel, by decide +kernel⟩

abbrev s__law_rank : Stmt := topS 28
theorem sc__law_rank : FnScope ["_law_order", "_law_name", "e", "_law_rank_here", "_law_other"] ["_law_order", "_law_name"] (defScope s__law_rank) := ⟨rfl, rfl, rfl, by decide +kernel, rfl, by decide +kernel, by decide +kernel⟩

abbrev s__law_sort : Stmt := topS 29
theorem sc__law_sort : FnScope ["_law_order", "_law_row", "e", "_law_result", "_law_other"] ["_law_order", "_law_row"] (defScope s__law_sort) := ⟨rfl, rfl, rfl, by decide +kernel, rfl, by decide +kernel, by decide +kernel⟩

abbrev s__law_sort_due : Stmt := topS 30
theorem sc__law_sort_due : FnScope ["_law_row", "_law_wanted", "_law_name", "_law_result", "_law_other"] ["_law_row", "_law_wanted"] (defScope s__law_sort_due) := ⟨rfl, rfl, rfl, by decide +kernel, rfl, by decide +kernel, by decide +kernel⟩

abbrev s__law_fits : Stmt := topS 31
theorem sc__law_fits : FnScope ["_law_order", "_law_row", "_law_asked", "_law_name", "_law_due_here"] ["_law_order", "_law_row", "_law_asked"] (defScope s__law_fits) := ⟨rfl, rfl, rfl, by decide +kernel, rfl, by decide +kernel, by decide +kernel⟩

abbrev s_law : Stmt := topS 32
theorem sc_law : FnScope ["_law_script", "_law_state_here", "_law_names_here", "_law_row", "_law_bad", "_law_asked", "_law_handed", "_law_order", "_law_back", "_law_wanted", "_law_k", "_law_longer", "_law_due_here", "_law_source", "_law_result", "_law_item", "_law_at"] ["_law_script"] (defScope s_law) := ⟨rfl, rfl, rfl, by decide +kernel, rfl, by decide +kernel, by decide +kernel⟩

abbrev s_KeyOrder___init__ : Stmt := mthS (topS 16) 0
theorem sc_KeyOrder___init__ : FnScope ["self", "names", "name"] ["self", "names"] (defScope s_KeyOrder___init__) := ⟨rfl, rfl, rfl, by decide +kernel, rfl, by decide +kernel, by decide +kernel⟩

abbrev s_KeyOrder___getitem__ : Stmt := mthS (topS 16) 1
theorem sc_KeyOrder___getitem__ : FnScope ["self", "name", "ranks", "rank", "other"] ["self", "name"] (defScope s_KeyOrder___getitem__) := ⟨rfl, rfl, rfl, by decide +kernel, rfl, by decide +kernel, by decide +kernel⟩

abbrev s_KeyOrder___contains__ : Stmt := mthS (topS 16) 2
theorem sc_KeyOrder___contains__ : FnScope ["self", "name"] ["self", "name"] (defScope s_KeyOrder___contains__) := ⟨rfl, rfl, rfl, by decide +kernel, rfl, by decide +kernel, by decide +kernel⟩

abbrev s_KeyOrder___len__ : Stmt := mthS (topS 16) 3
theorem sc_KeyOrder___len__ : FnScope ["self"] ["self"] (defScope s_KeyOrder___len__) := ⟨rfl, rfl, rfl, by decide +kernel, rfl, by decide +kernel, by decide +kernel⟩

abbrev s_KeyOrder___iter__ : Stmt := mthS (topS 16) 4
theorem sc_KeyOrder___iter__ : FnScope ["self"] ["self"] (defScope s_KeyOrder___iter__) := ⟨rfl, rfl, rfl, by decide +kernel, rfl, by decide +kernel, by decide +kernel⟩

abbrev s_KeyOrder___call__ : Stmt := mthS (topS 16) 10
theorem sc_KeyOrder___call__ : FnScope ["self", "names", "name", "ranked"] ["self", "names"] (defScope s_KeyOrder___call__) := ⟨rfl, rfl, rfl, by decide +kernel, rfl, by decide +kernel, by decide +kernel⟩

abbrev s_BadName : Stmt := mthS (topS 2) 0
theorem sc_BadName : NdefX.NScope ["self", "name", "__class__"] ["self", "name"] ["__class__"] (defScope s_BadName) := NdefX.nscope_by (by decide +kernel)
abbrev s_UnknownName : Stmt := mthS (topS 3) 0
theorem sc_UnknownName : NdefX.NScope ["self", "name", "__class__"] ["self", "name"] ["__class__"] (defScope s_UnknownName) := NdefX.nscope_by (by decide +kernel)
abbrev s_BadOrder : Stmt := mthS (topS 7) 0
theorem sc_BadOrder : NdefX.NScope ["self", "__class__"] ["self"] ["__class__"] (defScope s_BadOrder) := NdefX.nscope_by (by decide +kernel)
abbrev s_UnknownKey : Stmt := mthS (topS 3) 0
theorem sc_UnknownKey : NdefX.NScope ["self", "name", "__class__"] ["self", "name"] ["__class__"] (defScope s_UnknownKey) := NdefX.nscope_by (by decide +kernel)
section
variable {P : Program} {w : World} {K : PySem.W.Frag} {mg : Str → Option Value} {base : Heap}
variable {t_LETTERS t_LONGEST_NAME : Tok} {a_RESERVED a_BadName a_BadOrder a_ElseputError a_KeyOrder a_UnknownField a_UnknownKey a_UnknownName a_UnknownShape : Addr}
structure Gs (K : PySem.W.Frag) (mg : Str → Option Value) (t_LETTERS t_LONGEST_NAME : Tok) (a_RESERVED a_BadName a_BadOrder a_ElseputError a_KeyOrder a_UnknownField a_UnknownKey a_UnknownName a_UnknownShape : Addr) : Prop where
  z_ValueError : mg "ValueError" = none
  z_all : mg "all" = none
  z_bool : mg "bool" = none
  z_dict : mg "dict" = none
  z_enumerate : mg "enumerate" = none
  z_int : mg "int" = none
  z_isinstance : mg "isinstance" = none
  z_iter : mg "iter" = none
  z_len : mg "len" = none
  z_list : mg "list" = none
  z_range : mg "range" = none
  z_set : mg "set" = none
  z_str : mg "str" = none
  z_super : mg "super" = none
  z_tuple : mg "tuple" = none
  g_LETTERS : mg "LETTERS" = some (.str "abcdefghijklmnopqrstuvwxyz" t_LETTERS)
  g_LONGEST_NAME : mg "LONGEST_NAME" = some (.int 12 t_LONGEST_NAME)
  g_RESERVED : mg "RESERVED" = some (.ref a_RESERVED)
  q_RESERVED : ∀ H, SqT K H a_RESERVED [(.str "always"), (.str "never"), (.str "and"), (.str "or"), (.str "not"), (.str "when"), (.str "add"), (.str "set"), (.str "change"), (.str "tell"), (.str "refuse"), (.str "take"), (.str "look"), (.str "free"), (.str "lock"), (.str "keep"), (.str "keys"), (.str "fields")]
  g_BadName : mg "BadName" = some (.ref a_BadName)
  n_BadName : PySem.W.nsIn K mainGlobals "BadName" = some (some (.ref a_BadName))
  x_BadName : ExV K a_BadName ["name"]
  g_BadOrder : mg "BadOrder" = some (.ref a_BadOrder)
  n_BadOrder : PySem.W.nsIn K mainGlobals "BadOrder" = some (some (.ref a_BadOrder))
  x_BadOrder : ExV K a_BadOrder []
  g_ElseputError : mg "ElseputError" = some (.ref a_ElseputError)
  n_ElseputError : PySem.W.nsIn K mainGlobals "ElseputError" = some (some (.ref a_ElseputError))
  g_KeyOrder : mg "KeyOrder" = some (.ref a_KeyOrder)
  n_KeyOrder : PySem.W.nsIn K mainGlobals "KeyOrder" = some (some (.ref a_KeyOrder))
  g_UnknownField : mg "UnknownField" = some (.ref a_UnknownField)
  n_UnknownField : PySem.W.nsIn K mainGlobals "UnknownField" = some (some (.ref a_UnknownField))
  g_UnknownKey : mg "UnknownKey" = some (.ref a_UnknownKey)
  n_UnknownKey : PySem.W.nsIn K mainGlobals "UnknownKey" = some (some (.ref a_UnknownKey))
  x_UnknownKey : ExV K a_UnknownKey ["name"]
  g_UnknownName : mg "UnknownName" = some (.ref a_UnknownName)
  n_UnknownName : PySem.W.nsIn K mainGlobals "UnknownName" = some (some (.ref a_UnknownName))
  x_UnknownName : ExV K a_UnknownName ["name"]
  g_UnknownShape : mg "UnknownShape" = some (.ref a_UnknownShape)
  n_UnknownShape : PySem.W.nsIn K mainGlobals "UnknownShape" = some (some (.ref a_UnknownShape))
  cl_KeyOrder : Cls K a_KeyOrder
  na_KeyOrder_names : NoAttr K a_KeyOrder "names"
  rd_KeyOrder : ClX.CRead K a_KeyOrder (.type "type")
  m_BadName_ElseputError : PySem.W.exmOne K (.ref a_BadName) (.ref a_ElseputError) = some true
  m_BadName_UnknownKey : PySem.W.exmOne K (.ref a_BadName) (.ref a_UnknownKey) = some false
  m_BadOrder_ElseputError : PySem.W.exmOne K (.ref a_BadOrder) (.ref a_ElseputError) = some true
  m_BadOrder_UnknownKey : PySem.W.exmOne K (.ref a_BadOrder) (.ref a_UnknownKey) = some false
  m_UnknownKey_ElseputError : PySem.W.exmOne K (.ref a_UnknownKey) (.ref a_ElseputError) = some true
  m_UnknownKey_UnknownKey : PySem.W.exmOne K (.ref a_UnknownKey) (.ref a_UnknownKey) = some true
  k_BadName_BadName : PySem.W.kitOne K (.ref a_BadName) (.ref a_BadName) = some true
  k_BadName_BadOrder : PySem.W.kitOne K (.ref a_BadName) (.ref a_BadOrder) = some false
  k_BadName_UnknownName : PySem.W.kitOne K (.ref a_BadName) (.ref a_UnknownName) = some false
  k_BadName_ValueError : PySem.W.kitOne K (.ref a_BadName) (.type "ValueError") = some true
  k_BadName_UnknownField : PySem.W.kitOne K (.ref a_BadName) (.ref a_UnknownField) = some false
  k_BadName_UnknownShape : PySem.W.kitOne K (.ref a_BadName) (.ref a_UnknownShape) = some false
  k_BadOrder_BadName : PySem.W.kitOne K (.ref a_BadOrder) (.ref a_BadName) = some false
  k_BadOrder_BadOrder : PySem.W.kitOne K (.ref a_BadOrder) (.ref a_BadOrder) = some true
  k_BadOrder_UnknownName : PySem.W.kitOne K (.ref a_BadOrder) (.ref a_UnknownName) = some false
  k_BadOrder_ValueError : PySem.W.kitOne K (.ref a_BadOrder) (.type "ValueError") = some true
  k_BadOrder_UnknownField : PySem.W.kitOne K (.ref a_BadOrder) (.ref a_UnknownField) = some false
  k_BadOrder_UnknownShape : PySem.W.kitOne K (.ref a_BadOrder) (.ref a_UnknownShape) = some false
  k_UnknownKey_BadName : PySem.W.kitOne K (.ref a_UnknownKey) (.ref a_BadName) = some false
  k_UnknownKey_BadOrder : PySem.W.kitOne K (.ref a_UnknownKey) (.ref a_BadOrder) = some false
  k_UnknownKey_UnknownName : PySem.W.kitOne K (.ref a_UnknownKey) (.ref a_UnknownName) = some true
  k_UnknownKey_ValueError : PySem.W.kitOne K (.ref a_UnknownKey) (.type "ValueError") = some true
  k_UnknownKey_UnknownField : PySem.W.kitOne K (.ref a_UnknownKey) (.ref a_UnknownField) = some false
  k_UnknownKey_UnknownShape : PySem.W.kitOne K (.ref a_UnknownKey) (.ref a_UnknownShape) = some false
/-! ### the script's state -/
def stv (scr : Addr) (i v m c : Int) : List V := [.ref scr, .int i, .int v, .int m, .int c]
def DrAt (H : Hp) (st scr : Addr) : Prop := ∃ (ns : List Int) (i v m c : Int), H st = some (.lst (stv scr i v m c)) ∧ H scr = some (.lst (ns.map V.int)) ∧ ns.length ≤ 63 ∧ 0 ≤ i
theorem DrAt.ne {H : Hp} {st scr : Addr} {ns : List Int} {i v m c : Int} (h : H st = some (.lst (stv scr i v m c))) (h2 : H scr = some (.lst (ns.map V.int))) : scr ≠ st := by
  refine ne_of h2 h fun e => ?_
  injection e with e
  cases ns with
  | nil => simp [stv] at e
  | cons a r => simp [stv] at e
theorem DrAt.upd {H : Hp} {st scr : Addr} {ns : List Int} {i v m c i' v' m' c' : Int} (h : H st = some (.lst (stv scr i v m c))) (h2 : H scr = some (.lst (ns.map V.int))) (hl : ns.length ≤ 63) (h0 : 0 ≤ i') : DrAt (upd H st (.lst (stv scr i' v' m' c'))) st scr :=
  ⟨ns, i', v', m', c', upd_same, by rw [upd_ne (DrAt.ne h h2)]; exact h2, hl, h0⟩
theorem upd_id {H : Hp} {a : Addr} {o : HO} (h : H a = some o) : upd H a o = H := by
  funext b
  unfold L2.upd
  split
  · rename_i e; rw [e, h]
  · rfl
theorem DrAt.lst {H : Hp} {st scr : Addr} (h : DrAt H st scr) : ∃ l, H st = some (.lst l) := by
  obtain ⟨ns, i, v, m, c, h, _⟩ := h
  exact ⟨_, h⟩
theorem DrAt.new {H H' : Hp} {st scr : Addr} (h : DrAt H st scr) (s : Same H H') : DrAt H' st scr := by
  obtain ⟨ns, i, v, m, c, h1, h2, h3⟩ := h
  exact ⟨ns, i, v, m, c, s _ _ h1, s _ _ h2, h3⟩
theorem DrAt.at {H : Hp} {st scr p : Addr} {o : HO} (h : DrAt H st scr) (h1 : p ≠ st) (h2 : p ≠ scr) : DrAt (L2.upd H p o) st scr := by
  obtain ⟨ns, i, v, m, c, e1, e2, h3⟩ := h
  exact ⟨ns, i, v, m, c, by rw [upd_ne h1.symm]; exact e1, by rw [upd_ne h2.symm]; exact e2, h3⟩
theorem same_new {H : Hp} {p : Addr} {o : HO} (h : H p = none) : Same H (upd H p o) := fun b u q => by rw [upd_ne (ne_of_none q h)]; exact q
theorem free_new {H : Hp} {p q : Addr} {o : HO} (h : upd H p o q = none) : H q = none := by
  unfold L2.upd at h
  split at h
  · cases h
  · exact h
theorem new_ne {H : Hp} {p q : Addr} {o : HO} (h : upd H p o q = none) : q ≠ p := fun e => by rw [e, upd_same] at h; cases h
theorem len_add (a b : Str) : (a ++ b).length = a.length + b.length := by
  show (a.cps ++ b.cps).size = _
  rw [Array.size_append]
  rfl
theorem cps_add (a b : Str) : (a ++ b).cps.toList = a.cps.toList ++ b.cps.toList := by
  show (a.cps ++ b.cps).toList = _
  rw [Array.toList_append]
theorem len_cps (z : Str) : z.cps.toList.length = z.length := Array.length_toList
theorem line_of {n : Nat} (h : n ≤ 100000) : n ≤ sizeLine := Nat.le_trans h (by decide)
theorem line_lt {n : Nat} (h : n < 100000) : n < sizeLine := Nat.lt_of_lt_of_le h (by decide)
/-- all that stood stands, st's own numbers aside -/
def Bt (st : Addr) (H H' : Hp) : Prop := ∀ b o, b ≠ st → H b = some o → H' b = some o
theorem Bt.refl (st : Addr) (H : Hp) : Bt st H H := fun _ _ _ h => h
theorem Bt.trans {st : Addr} {H H1 H2 : Hp} (a : Bt st H H1) (b : Bt st H1 H2) : Bt st H H2 := fun c o n h => b c o n (a c o n h)
theorem Bt.same {st : Addr} {H H' : Hp} (s : Same H H') : Bt st H H' := fun b o _ h => s b o h
theorem Bt.st {st : Addr} {H : Hp} {o : HO} : Bt st H (upd H st o) := fun b u n h => by rw [upd_ne n]; exact h
theorem Bt.free {st : Addr} {H H' : Hp} (s : Bt st H H') {l : Addr} (n : l ≠ st) (h : H' l = none) : H l = none := by
  cases q : H l with
  | none => rfl
  | some o => rw [s l o n q] at h; cases h
theorem DrAt.ne_new {H : Hp} {st scr p : Addr} (h : DrAt H st scr) (n : H p = none) : p ≠ st := by
  obtain ⟨l, e⟩ := h.lst
  exact (ne_of_none e n).symm

theorem DrAt.ne_scr {H : Hp} {st scr p : Addr} (h : DrAt H st scr) (n : H p = none) : p ≠ scr := by
  obtain ⟨ns, i, v, m, c, e1, e2, h3⟩ := h
  exact (ne_of_none e2 n).symm

/-! ### is_name -/
abbrev letters : Str := "abcdefghijklmnopqrstuvwxyz"
abbrev resv : List V := [.str "always", .str "never", .str "and", .str "or", .str "not", .str "when", .str "add", .str "set", .str "change", .str "tell", .str "refuse", .str "take", .str "look", .str "free", .str "lock", .str "keep", .str "keys", .str "fields"]
def isName (z : Str) : Bool := if (decide ((z.length : Int) < 1) || decide ((12 : Int) < z.length) || inV (.str z) resv) = true then false else z.cps.toList.all fun c => decide (c ∈ letters.cps.toList)
def sp_is_name (K : PySem.W.Frag) : Sp := fun vs H Q _ => ∃ z : Str, vs = [.str z] ∧ z.length ≤ 1000 ∧ ∀ H', Same H H' → Q (.bl (isName z)) H'
theorem len_is_name {vs : List V} {H : Hp} {Q : VK} {E : XK} (h : sp_is_name K vs H Q E) : vs.length = 1 := by
  obtain ⟨_, rfl, _⟩ := h
  rfl
theorem ok_is_name {f : Addr} {fd : FuncData} (F : Fun K "is_name" "is_name" s_is_name f fd) (T : Gs K mg t_LETTERS t_LONGEST_NAME a_RESERVED a_BadName a_BadOrder a_ElseputError a_KeyOrder a_UnknownField a_UnknownKey a_UnknownName a_UnknownShape) : FnOk P w K mg base CX0 1 f fd ["text"] (sp_is_name K) := by
  refine F.ok sc_is_name (fun vs H Q E h => len_is_name h) (fun cdv A outer s H vs Q E hr h => ?_)
  obtain ⟨z, rfl, h0, q⟩ := h
  refine ⟨_, (pss_cons (ps_if (PW.pt (pw_or (pt_c op_ltM (pe_callB (lenK K) (by rfl) T.z_len PySem.boot_len (pa_cons (v_ 0) pa_nil)) pe_int) (pw_or (pt_c op_gtM (pe_callB (lenK K) (by rfl) T.z_len PySem.boot_len (pa_cons (v_ 0) pa_nil)) (pe_glob (v := .int 12) rfl T.g_LONGEST_NAME ⟨_, rfl⟩)) (pw_or1 (pt_c (inK K) (v_ 0) (pe_glob (v := .ref a_RESERVED) rfl T.g_RESERVED rfl)))))) (pss_one (ps_ret pe_bl)) pss_nil) (pss_one (ps_ret (pe_callB (allK K rfl) (by rfl) T.z_all (by decide +kernel) (pa_cons (pe_lc (own := [("letter", 1)]) (g := gName 1) (by rfl) sc_is_name.nd (pi_str (v_ 0)) (blkOk_by (N := ["text", "letter"]) (sc := defScope s_is_name) (by decide +kernel)) (fun _ _ _ _ _ => pg_name (i := 1) sc_is_name.nd rfl (Or.inl rfl)) (fun _ _ _ _ _ => pts_nil) (fun _ _ _ _ _ => (pe_c (inK K) (v_ 1) (pe_glob (v := .str "abcdefghijklmnopqrstuvwxyz") rfl T.g_LETTERS ⟨_, rfl⟩)))) pa_nil))))), ?_⟩
  refine ⟨line_of (by omega), ?_⟩
  have no : ∀ c : Bool, (decide ((z.length : Int) < 1) || decide ((12 : Int) < z.length) || inV (.str z) resv) = c → isName z = if c = true then false else z.cps.toList.all fun c => decide (c ∈ letters.cps.toList) := fun c e => by
    rw [← e]; rfl
  refine ite2 (fun e => ?_) (fun e => ?_)
  · have := q H (Same.refl H)
    rw [no true (by rw [show decide ((z.length : Int) < 1) = true from e]; rfl)] at this
    exact this
  refine ⟨line_of (by omega), ?_⟩
  refine ite2 (fun e1 => ?_) (fun e1 => ?_)
  · have := q H (Same.refl H)
    rw [no true (by rw [show decide ((12 : Int) < z.length) = true from e1, Bool.or_true]; rfl)] at this
    exact this
  refine ⟨_, .inr (T.q_RESERVED _), rfl, rfl, ?_⟩
  refine ite2 (fun e2 => ?_) (fun e2 => ?_)
  · have := q H (Same.refl H)
    rw [no true (by rw [show inV (.str z) resv = true from e2, Bool.or_true])] at this
    exact this
  have en : isName z = z.cps.toList.all fun c => decide (c ∈ letters.cps.toList) := by
    rw [no false (by rw [show decide ((z.length : Int) < 1) = false from Bool.eq_false_iff.mpr e, show decide ((12 : Int) < z.length) = false from Bool.eq_false_iff.mpr e1, show inV (.str z) resv = false from Bool.eq_false_iff.mpr e2]; rfl)]
    rfl
  refine ⟨z, rfl, fun D nD => lc_it walk_str (fun i H' => H' = upd H D (.lst (((z.cps.toList.take i).map fun c => decide (c ∈ letters.cps.toList)).map V.bl))) rfl (fun _ _ _ _ => True.intro) ?_ ?_⟩
  · rintro i x H1 H2 hi rfl ⟨rfl, c, hc, rfl⟩
    refine ⟨rfl, ?_⟩
    refine ⟨c, rfl, _, upd_same, ?_, ?_⟩
    · rw [List.length_map, List.length_map, List.length_take]
      have : z.cps.size = z.length := rfl
      exact small1000 (by omega)
    · rw [upd_upd]
      have e : z.cps.toList.take (i + 1) = z.cps.toList.take i ++ [c] := by
        rw [List.take_add_one, Array.getElem?_toList, hc]
        rfl
      rw [e, List.map_append, List.map_append]
      rfl
  · rintro H1 rfl
    rw [show z.cps.size = z.cps.toList.length from (Array.length_toList).symm, List.take_length]
    refine ⟨_, _, rfl, SqL.of upd_same, ?_⟩
    have := q _ (same_new nD (o := .lst ((z.cps.toList.map fun c => decide (c ∈ letters.cps.toList)).map V.bl)))
    rw [en] at this
    rw [List.all_map]
    exact this


end
section
variable {P : Program} {w : World} {K : PySem.W.Frag} {mg : Str → Option Value} {base : Heap}
variable {t_LETTERS t_LONGEST_NAME : Tok} {a_RESERVED a_BadName a_BadOrder a_ElseputError a_KeyOrder a_UnknownField a_UnknownKey a_UnknownName a_UnknownShape : Addr}
/-! ### checks -/
theorem isName_mem {z : Str} (h : isName z = true) : (∀ c ∈ z.cps.toList, c ∈ letters.cps.toList) ∧ 1 ≤ z.length ∧ z.length ≤ 12 ∧ inV (.str z) resv = false := by
  unfold isName at h
  split at h
  · exact absurd h (by decide)
  · rename_i hc
    rw [Bool.not_eq_true, Bool.or_eq_false_iff, Bool.or_eq_false_iff, decide_eq_false_iff_not, decide_eq_false_iff_not] at hc
    exact ⟨fun c hm => of_decide_eq_true (List.all_eq_true.mp h c hm), by omega, by omega, hc.2⟩
theorem letters_small : ∀ c ∈ letters.cps.toList, c < 16 ^ 8 := by decide +kernel
theorem isName_asc {z : Str} (h : isName z = true) : Asc z := fun c hc => letters_small c ((isName_mem h).1 c hc)
def BadN (K : PySem.W.Frag) (H : Hp) (z : Str) (E : XK) : Prop := ∀ (C d : Addr) (H' : Hp), PySem.W.nsIn K mainGlobals "BadName" = some (some (.ref C)) → Same H H' → H d = none → H' d = some (.xd [("name", .str z)]) → E (.ref C) (some d) H'
theorem BadN.same {K : PySem.W.Frag} {H H1 : Hp} {z : Str} {E : XK} (h : BadN K H z E) (s : Same H H1) : BadN K H1 z E := fun C d H' hC s2 nd hd => h C d H' hC (s.trans s2) (Same.free s nd) hd
def okx_BadName (ws : List V) : Prop := ∃ z : Str, ws = [.str z] ∧ z.length ≤ 1000 ∧ Asc z
def fs_BadName (ws : List V) : List (Str × V) := match ws with | [l] => [("name", l)] | _ => []
def okx_UnknownKey (ws : List V) : Prop := okx_BadName ws
def fs_UnknownKey (ws : List V) : List (Str × V) := fs_BadName ws
theorem len_spE {C : Addr} {ok : List V → Prop} {fs : List V → List (Str × V)} {n : Nat} (hn : ∀ ws, ok ws → ws.length = n) {vs : List V} {H : Hp} {Q : VK} {E : XK} (h : spE C ok fs vs H Q E) : vs.length = n + 1 := by
  obtain ⟨a, ws, rfl, h, _⟩ := h
  rw [List.length_cons, hn _ h]
theorem log_200 {i : Int} (h : i.natAbs < 2 ^ 200) : i.natAbs.log2 < 1920 := by
  by_cases hz : i.natAbs = 0
  · rw [hz]
    decide
  · exact (Nat.log2_lt hz).mpr (Nat.lt_of_lt_of_le h (Nat.pow_le_pow_right (by decide) (by decide)))
theorem ok_BadName {C f cc cda : Addr} {doc pm ct oc ccl cl : Value} {od cdd cld : Option Addr} {osl ccs csl : Array (Option Value)} {vs0 : Array Value} {file : Str} {tf : Tok} {cdD : ClassData}
    (X : ExK K C f ["name"]) (lk : K.lookup f = some ⟨oc, od, .func (PySem.W.fnX "__init__" "BadName.__init__" (defArgs s_BadName) (defBody s_BadName) (defScope s_BadName) [("__class__", cc)] .none .none doc pm none (.ref cda) ct), osl⟩)
    (hcd : PySem.W.codeIn K (.ref cda) "BadName.__init__" = true) (hcode : K.lookup cda = some ⟨ccl, cdd, .fields vs0, ccs⟩) (hvs : vs0[2]? = some (.str file tf)) (hfile : ((P.main.file : Str) == file) = true)
    (hcell : K.lookup cc = some ⟨cl, cld, .cell (some (.ref C)), csl⟩) (hD : PySem.W.clsIn K C = some cdD) (hsuper : mg "super" = none) (hop : PySem.W.nsIn K PySem.cStatics "thirdparty.any" = some none) (htop : (P.main.scope.names.lookup ("super" : Str)).isSome = false) :
    FnOk P w K mg base CX0 1 f (PySem.W.fnX "__init__" "BadName.__init__" (defArgs s_BadName) (defBody s_BadName) (defScope s_BadName) [("__class__", cc)] .none .none doc pm none (.ref cda) ct) ["self", "name"] (spE C okx_BadName fs_BadName) := by
  refine fn_super lk hcd sc_BadName hcode hvs hfile hcell hD hsuper hop rfl rfl rfl htop rfl (fun vs H Q E h => len_spE (n := 1) (fun ws h => by obtain ⟨_, rfl, _⟩ := h; rfl) h) (fun A outer s H vs Q E hr h => ?_) (fun _ => rfl) (fun _ => rfl) (fun _ => rfl)
  obtain ⟨a, ws, rfl, ⟨l, rfl, l0, l1⟩, ea, q⟩ := h
  refine ⟨a, C, _, _, rfl, ea, X.oex, X.mro, X.sup, X.subV, pa_cons (pe_joined (.cons pe_str (.cons (pe_fmtR (v_ 1)) .nil))) pa_nil, pss_one (ps_ost (v_ 0) (v_ 1)), ?_⟩
  have tl := repr_le l1 l0
  have z0 : Str.empty.length = 0 := rfl
  have z1 : (Str.ofString "not a name: ").length = 12 := rfl
  refine ⟨_, rfl, line_of (by rw [len_add]; omega), .inl ⟨_, rfl, line_of (by omega), _, rfl, line_of (by rw [len_add, len_add]; omega), ?_⟩⟩
  refine ⟨ea, (by show 1 ≤ 1000; decide), ?_⟩
  exact ⟨a, C, rfl, X.oex, X.no _ (by simp), .inl ⟨ea, ost1 ea fun dx H' n ne e1 e2 hh => q dx _ n ne e1 e2 hh⟩⟩
theorem ok_UnknownKey {C f cc cda D : Addr} {doc pm ct oc ccl cl : Value} {od cdd cld : Option Addr} {osl ccs csl : Array (Option Value)} {vs0 : Array Value} {file : Str} {tf : Tok} {cdD : ClassData}
    (X : ExI K C D f ["name"]) (lk : K.lookup f = some ⟨oc, od, .func (PySem.W.fnX "__init__" "UnknownName.__init__" (defArgs s_UnknownKey) (defBody s_UnknownKey) (defScope s_UnknownKey) [("__class__", cc)] .none .none doc pm none (.ref cda) ct), osl⟩)
    (hcd : PySem.W.codeIn K (.ref cda) "UnknownName.__init__" = true) (hcode : K.lookup cda = some ⟨ccl, cdd, .fields vs0, ccs⟩) (hvs : vs0[2]? = some (.str file tf)) (hfile : ((P.main.file : Str) == file) = true)
    (hcell : K.lookup cc = some ⟨cl, cld, .cell (some (.ref D)), csl⟩) (hD : PySem.W.clsIn K D = some cdD) (hsuper : mg "super" = none) (hop : PySem.W.nsIn K PySem.cStatics "thirdparty.any" = some none) (htop : (P.main.scope.names.lookup ("super" : Str)).isSome = false) :
    FnOk P w K mg base CX0 1 f (PySem.W.fnX "__init__" "UnknownName.__init__" (defArgs s_UnknownKey) (defBody s_UnknownKey) (defScope s_UnknownKey) [("__class__", cc)] .none .none doc pm none (.ref cda) ct) ["self", "name"] (spE C okx_UnknownKey fs_UnknownKey) := by
  refine fn_super lk hcd sc_UnknownKey hcode hvs hfile hcell hD hsuper hop rfl rfl rfl htop rfl (fun vs H Q E h => len_spE (n := 1) (fun ws h => by obtain ⟨_, rfl, _⟩ := h; rfl) h) (fun A outer s H vs Q E hr h => ?_) (fun _ => rfl) (fun _ => rfl) (fun _ => rfl)
  obtain ⟨a, ws, rfl, ⟨l, rfl, l0, l1⟩, ea, q⟩ := h
  refine ⟨a, C, _, _, rfl, ea, X.oex, X.mro, X.sup, X.subV, pa_cons (pe_joined (.cons pe_str (.cons (pe_fmtR (v_ 1)) .nil))) pa_nil, pss_one (ps_ost (v_ 0) (v_ 1)), ?_⟩
  have tl := repr_le l1 l0
  have z0 : Str.empty.length = 0 := rfl
  have z1 : (Str.ofString "unknown: ").length = 9 := rfl
  refine ⟨_, rfl, line_of (by rw [len_add]; omega), .inl ⟨_, rfl, line_of (by omega), _, rfl, line_of (by rw [len_add, len_add]; omega), ?_⟩⟩
  refine ⟨ea, (by show 1 ≤ 1000; decide), ?_⟩
  exact ⟨a, C, rfl, X.oex, X.no _ (by simp), .inl ⟨ea, ost1 ea fun dx H' n ne e1 e2 hh => q dx _ n ne e1 e2 hh⟩⟩
theorem ok_BadOrder {C f cc cda : Addr} {doc pm ct oc ccl cl : Value} {od cdd cld : Option Addr} {osl ccs csl : Array (Option Value)} {vs0 : Array Value} {file : Str} {tf : Tok} {cdD : ClassData}
    (X : ExK K C f []) (lk : K.lookup f = some ⟨oc, od, .func (PySem.W.fnX "__init__" "BadOrder.__init__" (defArgs s_BadOrder) (defBody s_BadOrder) (defScope s_BadOrder) [("__class__", cc)] .none .none doc pm none (.ref cda) ct), osl⟩)
    (hcd : PySem.W.codeIn K (.ref cda) "BadOrder.__init__" = true) (hcode : K.lookup cda = some ⟨ccl, cdd, .fields vs0, ccs⟩) (hvs : vs0[2]? = some (.str file tf)) (hfile : ((P.main.file : Str) == file) = true)
    (hcell : K.lookup cc = some ⟨cl, cld, .cell (some (.ref C)), csl⟩) (hD : PySem.W.clsIn K C = some cdD) (hsuper : mg "super" = none) (hop : PySem.W.nsIn K PySem.cStatics "thirdparty.any" = some none) (htop : (P.main.scope.names.lookup ("super" : Str)).isSome = false) :
    FnOk P w K mg base CX0 1 f (PySem.W.fnX "__init__" "BadOrder.__init__" (defArgs s_BadOrder) (defBody s_BadOrder) (defScope s_BadOrder) [("__class__", cc)] .none .none doc pm none (.ref cda) ct) ["self"] (spE0 C) := by
  refine fn_super lk hcd sc_BadOrder hcode hvs hfile hcell hD hsuper hop rfl rfl rfl htop rfl (fun vs H Q E h => by obtain ⟨_, rfl, _⟩ := h; rfl) (fun A outer s H vs Q E hr h => ?_) (fun _ => rfl) (fun _ => rfl) (fun _ => rfl)
  obtain ⟨a, rfl, ea, q⟩ := h
  exact ⟨a, C, _, _, rfl, ea, X.oex, X.mro, X.sup, X.subV, pa_cons pe_str pa_nil, pss_nil, ea, (by show 1 ≤ 1000; decide), q⟩
end
section
variable {P : Program} {w : World} {K : PySem.W.Frag} {mg : Str → Option Value} {base : Heap}
variable {t_LETTERS t_LONGEST_NAME : Tok} {a_RESERVED a_BadName a_BadOrder a_ElseputError a_KeyOrder a_UnknownField a_UnknownKey a_UnknownName a_UnknownShape : Addr}
def sp_check_name (K : PySem.W.Frag) : Sp := fun vs H Q E => ∃ z : Str, vs = [.str z] ∧ z.length ≤ 1000 ∧ Asc z ∧ (if isName z = true then ∀ H', Same H H' → Q .non H' else BadN K H z E)
theorem len_check_name {vs : List V} {H : Hp} {Q : VK} {E : XK} (h : sp_check_name K vs H Q E) : vs.length = 1 := by
  obtain ⟨_, rfl, _⟩ := h
  rfl
theorem ok_check_name {f : Addr} {fd : FuncData} {f_is_name : Addr} {fd_is_name : FuncData} {f_BadName : Addr} {fd_BadName : FuncData} (F : Fun K "check_name" "check_name" s_check_name f fd) (T : Gs K mg t_LETTERS t_LONGEST_NAME a_RESERVED a_BadName a_BadOrder a_ElseputError a_KeyOrder a_UnknownField a_UnknownKey a_UnknownName a_UnknownShape) (c_is_name : Cal P w K mg base CX0 1 "is_name" f_is_name fd_is_name ["text"] (sp_is_name K)) (c_BadName : CalE P w K mg base 1 "BadName" a_BadName f_BadName fd_BadName ["self", "name"] okx_BadName fs_BadName ["name"]) : FnOk P w K mg base (L2.CX P w) 3 f fd ["text"] (sp_check_name K) := by
  refine F.okX sc_check_name (fun vs H Q E h => len_check_name h) (fun cdv A outer s H vs Q E hr h => ?_)
  obtain ⟨z, rfl, h0, h1, q⟩ := h
  refine ⟨_, (pss_one (ps_if (pt_not (pt_t K (pe_call c_is_name.G (hr.mono (by first | decide | omega)) rfl c_is_name.m c_is_name.kp c_is_name.b .nil pass0 (pa_cons (v_ 0) pa_nil)))) (pss_one (ps_raise rfl (takes_of rfl rfl rfl rfl) (pmk_oex c_BadName.X.oex c_BadName.X.iC c_BadName.X.tI c_BadName.G (hr.mono (by first | decide | omega)) c_BadName.b .nil pass0 rfl c_BadName.m (pa_cons (v_ 0) pa_nil)))) pss_nil)), ?_⟩
  refine ⟨z, rfl, h0, fun H' s => ?_⟩
  refine ite2 (fun e => ?_) (fun e => ?_)
  · have e : ¬ isName z = true := by
      have e : (!isName z) = true := e
      rw [Bool.not_eq_true'] at e
      rw [e]
      decide
    rw [if_neg e] at q
    refine mk_spE (by show 1 ≤ 1000; decide) ⟨z, rfl, h0, h1⟩ (fun d nd => ?_)
    exact q a_BadName d _ T.n_BadName (s.trans (same_new nd)) (Same.free s nd) upd_same
  · have e : isName z = true := by
      have e : ¬ (!isName z) = true := e
      rw [Bool.not_eq_true, Bool.not_eq_false'] at e
      exact e
    rw [if_pos e] at q
    exact q H' s
end
section
variable {P : Program} {w : World} {K : PySem.W.Frag} {mg : Str → Option Value} {base : Heap}
variable {t_LETTERS t_LONGEST_NAME : Tok} {a_RESERVED a_BadName a_BadOrder a_ElseputError a_KeyOrder a_UnknownField a_UnknownKey a_UnknownName a_UnknownShape : Addr}
/-! ### orders -/
def OrAt (K : PySem.W.Frag) (H : Hp) (a : Addr) (zs : List Str) : Prop := ∃ C dx t : Addr, PySem.W.nsIn K mainGlobals "KeyOrder" = some (some (.ref C)) ∧ H a = some (.ins C dx [("names", .ref t)]) ∧ H t = some (.tup (zs.map V.str))
theorem OrAt.same {H H' : Hp} {a : Addr} {zs : List Str} (h : OrAt K H a zs) (s : Same H H') : OrAt K H' a zs := by
  obtain ⟨C, dx, t, h1, h2, h3⟩ := h
  exact ⟨C, dx, t, h1, s _ _ h2, s _ _ h3⟩
/-- the first that is no name -/
def bad1 (zs : List Str) : Option Str := zs.find? fun z => !isName z
def SeqS (H : Hp) (p : Addr) (zs : List Str) : Prop := H p = some (.lst (zs.map V.str)) ∨ H p = some (.tup (zs.map V.str))
theorem SeqS.same {H H' : Hp} {p : Addr} {zs : List Str} (h : SeqS H p zs) (s : Same H H') : SeqS H' p zs := h.imp (s _ _) (s _ _)
def Inits (K : PySem.W.Frag) (H : Hp) (x C dx : Addr) (zs : List Str) (Q : VK) (E : XK) : Prop := match bad1 zs with
  | some z => ∀ (B d : Addr) (H' : Hp), PySem.W.nsIn K mainGlobals "BadName" = some (some (.ref B)) → Bt x H H' → H d = none → H' d = some (.xd [("name", .str z)]) → E (.ref B) (some d) H'
  | none => if zs.Nodup then ∀ (H' : Hp) (t : Addr), Bt x H H' → H' x = some (.ins C dx [("names", .ref t)]) → H' t = some (.tup (zs.map V.str)) → Q .non H'
    else ∀ (B : Addr) (H' : Hp), PySem.W.nsIn K mainGlobals "BadOrder" = some (some (.ref B)) → Bt x H H' → E (.ref B) none H'
def sp_KeyOrder___init__ (K : PySem.W.Frag) : Sp := fun vs H Q E => ∃ (x p C dx : Addr) (zs : List Str), vs = [.ref x, .ref p] ∧ PySem.W.nsIn K mainGlobals "KeyOrder" = some (some (.ref C)) ∧ H x = some (.ins C dx []) ∧ SeqS H p zs ∧ zs.length ≤ 20 ∧ (∀ z ∈ zs, z.length ≤ 1000 ∧ Asc z) ∧ Inits K H x C dx zs Q E
theorem len_KeyOrder___init__ {vs : List V} {H : Hp} {Q : VK} {E : XK} (h : sp_KeyOrder___init__ K vs H Q E) : vs.length = 2 := by
  obtain ⟨_, _, _, _, _, rfl, _⟩ := h
  rfl
theorem bad_none {zs : List Str} (h : ∀ z ∈ zs, isName z = true) : bad1 zs = none := by
  unfold bad1
  rw [List.find?_eq_none]
  intro z hz
  rw [h z hz]
  decide
theorem bad_at {zs : List Str} {i : Nat} {z : Str} (h : ∀ y ∈ zs.take i, isName y = true) (e : zs[i]? = some z) (hz : ¬ isName z = true) : bad1 zs = some z := by
  have e1 : zs = zs.take i ++ zs.drop i := (List.take_append_drop i zs).symm
  obtain ⟨hi, e2⟩ := List.getElem?_eq_some_iff.mp e
  have e3 : zs.drop i = z :: zs.drop (i + 1) := by rw [List.drop_eq_getElem_cons hi, e2]
  unfold bad1
  rw [e1, List.find?_append, e3]
  have n := bad_none h
  unfold bad1 at n
  rw [n, List.find?_cons_of_pos (by rw [Bool.eq_false_iff.mpr hz]; rfl)]
  rfl
theorem ok_KeyOrder___init__ {f : Addr} {fd : FuncData} {f_check_name : Addr} {fd_check_name : FuncData} {f_BadOrder : Addr} {fd_BadOrder : FuncData} (F : Fun K "__init__" "KeyOrder.__init__" s_KeyOrder___init__ f fd) (T : Gs K mg t_LETTERS t_LONGEST_NAME a_RESERVED a_BadName a_BadOrder a_ElseputError a_KeyOrder a_UnknownField a_UnknownKey a_UnknownName a_UnknownShape) (c_check_name : Cal P w K mg base (L2.CX P w) 3 "check_name" f_check_name fd_check_name ["text"] (sp_check_name K)) (c_BadOrder : CalE0 P w K mg base 1 "BadOrder" a_BadOrder f_BadOrder fd_BadOrder ["self"]) : FnOk P w K mg base (L2.CX P w) 4 f fd ["self", "names"] (sp_KeyOrder___init__ K) := by
  refine F.okX sc_KeyOrder___init__ (fun vs H Q E h => len_KeyOrder___init__ h) (fun cdv A outer s H vs Q E hr h => ?_)
  obtain ⟨x, p, C, dx, zs, rfl, hC, hx, hp, lz, hz, q⟩ := h
  cases hC.symm.trans T.n_KeyOrder
  refine ⟨_, (pss_cons (ps_fld (v_ 0) (pe_callTy tupS (by rfl) T.z_tuple (by decide +kernel) (pa_cons (v_ 1) pa_nil)) (by rfl)) (pss_cons (ps_for (passes_of rfl) rfl (pi_tup (e_f K (v_ 0))) (pg_name (i := 2) sc_KeyOrder___init__.nd rfl (.inl rfl)) (pss_one (ps_expr (pe_call c_check_name.G (hr.mono (by first | decide | omega)) rfl c_check_name.m c_check_name.kp c_check_name.b .nil (passes_call (takes_of rfl rfl rfl rfl) (fun _ _ _ _ h => h)) (pa_cons (v_ 2) pa_nil))))) (pss_one (ps_if (pt_c op_ltM (pe_lenSetTx (by rfl) T.z_len (by rfl) T.z_set (e_f K (v_ 0))) (pe_callB (lenK K) (by rfl) T.z_len PySem.boot_len (pa_cons (e_f K (v_ 0)) pa_nil))) (pss_one (ps_raise rfl (takes_of rfl rfl rfl rfl) (pmk_none c_BadOrder.X.oex c_BadOrder.X.iC c_BadOrder.X.tI c_BadOrder.G (hr.mono (by first | decide | omega)) c_BadOrder.b pass0 rfl c_BadOrder.m))) pss_nil)))), ?_⟩
  refine ⟨p, zs.map V.str, rfl, hp, fun H1 t s1 ht => ?_⟩
  have tx : t ≠ x := ne_of ht (s1 _ _ hx) (by intro e; cases e)
  refine ⟨x, a_KeyOrder, dx, [], rfl, s1 _ _ hx, T.cl_KeyOrder, T.na_KeyOrder_names, by decide, ?_⟩
  generalize hH2 : upd H1 x _ = H2
  have b1 : Bt x H H2 := fun b o nb hb => by rw [← hH2, upd_ne nb]; exact s1 _ _ hb
  have hx2 : H2 x = some (.ins a_KeyOrder dx [("names", .ref t)]) := by rw [← hH2, upd_same]; rfl
  have ht2 : H2 t = some (.tup (zs.map V.str)) := by rw [← hH2, upd_ne tx]; exact ht
  clear hH2
  refine ⟨x, a_KeyOrder, dx, _, _, rfl, hx2, T.cl_KeyOrder, T.na_KeyOrder_names, rfl, t, rfl, ⟨_, SqT.of ht2⟩, ?_⟩
  refine for_tup (K := K) (a := t) (xs := zs.map V.str) (fun i σ' H' => (∃ y, σ' = [some (.ref x), some (.ref p), y]) ∧ Same H2 H' ∧ ∀ y ∈ zs.take i, isName y = true) ⟨⟨_, rfl⟩, Same.refl _, fun _ h => nomatch h⟩ (fun i σ' H' _ h => SqT.of (h.2.1 _ _ ht2)) ?_ ?_
  · rintro i v σ' H3 hi ⟨⟨y, rfl⟩, sm, hn⟩
    rw [List.getElem?_map] at hi
    obtain ⟨z, ez, rfl⟩ := Option.map_eq_some_iff.mp hi
    obtain ⟨z1, z2⟩ := hz z (List.mem_of_getElem? ez)
    refine ⟨z, rfl, z1, z2, ?_⟩
    by_cases hnz : isName z = true
    · rw [if_pos hnz]
      refine fun H4 s4 => ⟨⟨_, rfl⟩, sm.trans s4, fun y hy => ?_⟩
      rw [take_more ez] at hy
      rcases List.mem_append.mp hy with h | h
      · exact hn y h
      · rw [List.mem_singleton.mp h]
        exact hnz
    · rw [if_neg hnz]
      unfold Inits at q
      rw [bad_at hn ez hnz] at q
      refine fun B d H4 hB s4 nd hd => q B d H4 hB (b1.trans (Bt.same (sm.trans s4))) ?_ hd
      by_cases e : H d = none
      · exact e
      · obtain ⟨o, ho⟩ := Option.ne_none_iff_exists'.mp e
        by_cases edx : d = x
        · rw [edx] at nd
          rw [sm _ _ hx2] at nd
          cases nd
        · rw [sm _ _ (b1 d o edx ho)] at nd
          cases nd
  rintro σ' H3 ⟨⟨y, rfl⟩, sm, hn⟩
  rw [List.length_map, List.take_length] at hn
  have b3 := b1.trans (Bt.same (st := x) sm)
  unfold Inits at q
  rw [bad_none hn] at q
  refine ⟨x, a_KeyOrder, dx, _, _, rfl, sm _ _ hx2, T.cl_KeyOrder, T.na_KeyOrder_names, rfl, t, zs, rfl, SqT.of (sm _ _ ht2), by omega, fun c c1 c2 => ?_⟩
  refine ⟨x, a_KeyOrder, dx, _, _, rfl, sm _ _ hx2, T.cl_KeyOrder, T.na_KeyOrder_names, rfl, ?_⟩
  refine .inl ⟨_, .inr (SqT.of (sm _ _ ht2)), ?_⟩
  rw [List.length_map]
  refine ite2 (fun e => ?_) (fun e => ?_)
  · have e : (c : Int) < zs.length := of_decide_eq_true e
    rw [if_neg (fun h => by have := c2.mpr h; omega)] at q
    exact q _ _ T.n_BadOrder b3
  · have e : ¬ (c : Int) < zs.length := of_decide_eq_false (Bool.eq_false_iff.mpr e)
    rw [if_pos (c2.mp (by omega))] at q
    exact q _ t b3 (sm _ _ hx2) (sm _ _ ht2)
end
section
variable {P : Program} {w : World} {K : PySem.W.Frag} {mg : Str → Option Value} {base : Heap}
variable {t_LETTERS t_LONGEST_NAME : Tok} {a_RESERVED a_BadName a_BadOrder a_ElseputError a_KeyOrder a_UnknownField a_UnknownKey a_UnknownName a_UnknownShape : Addr}
theorem inV_str {z : Str} : ∀ {xs : List Str}, inV (.str z) (xs.map V.str) = decide (z ∈ xs)
  | [] => rfl
  | a :: r => by
    have ih := inV_str (z := z) (xs := r)
    unfold inV at ih ⊢
    rw [List.map_cons, List.any_cons, ih]
    have : eqV (.str a) (.str z) = decide (z = a) := by
      show (a == z) = _
      rw [Bool.eq_iff_iff, beq_iff_eq, decide_eq_true_iff, eq_comm]
    rw [this, Bool.eq_iff_iff, Bool.or_eq_true, decide_eq_true_iff, decide_eq_true_iff, decide_eq_true_iff, List.mem_cons]
theorem flat_strs {xs : List Str} : (xs.map V.str).all flatV = true := by
  rw [List.all_map]
  exact List.all_eq_true.mpr fun _ _ => rfl
theorem take_snoc {α : Type} {xs : List α} {i : Nat} {x : α} (h : xs[i]? = some x) : xs.take (i + 1) = xs.take i ++ [x] := by
  rw [List.take_add_one, h]
  rfl
def BadO (K : PySem.W.Frag) (H : Hp) (E : XK) : Prop := ∀ (B : Addr) (H' : Hp), PySem.W.nsIn K mainGlobals "BadOrder" = some (some (.ref B)) → Same H H' → E (.ref B) none H'
def UnkN (K : PySem.W.Frag) (H : Hp) (z : Str) (E : XK) : Prop := ∀ (C d : Addr) (H' : Hp), PySem.W.nsIn K mainGlobals "UnknownKey" = some (some (.ref C)) → Same H H' → H d = none → H' d = some (.xd [("name", .str z)]) → E (.ref C) (some d) H'
theorem UnkN.same {K : PySem.W.Frag} {H H1 : Hp} {z : Str} {E : XK} (h : UnkN K H z E) (s : Same H H1) : UnkN K H1 z E := fun C d H' hC s2 nd hd => h C d H' hC (s.trans s2) (Same.free s nd) hd
/-- what making an order of zs comes to -/
def MkOut (K : PySem.W.Frag) (H : Hp) (zs : List Str) (Q : VK) (E : XK) : Prop := match bad1 zs with
  | some z => BadN K H z E
  | none => if zs.Nodup then ∀ (H' : Hp) (a : Addr), Same H H' → H a = none → OrAt K H' a zs → Q (.ref a) H' else BadO K H E
theorem made {K : PySem.W.Frag} {H H1 : Hp} {C p : Addr} {zs : List Str} {Q : VK} {E : XK} (hC : PySem.W.nsIn K mainGlobals "KeyOrder" = some (some (.ref C))) (s : Same H H1) (hp : SeqS H1 p zs) (lz : zs.length ≤ 20) (hz : ∀ z ∈ zs, z.length ≤ 1000 ∧ Asc z) (q : MkOut K H zs Q E) :
    ∀ x dx, H1 x = none → H1 dx = none → dx ≠ x → sp_KeyOrder___init__ K (.ref x :: [.ref p]) (upd (upd H1 dx (.own x)) x (.ins C dx [])) (fun v H2 => v = .non ∧ Q (.ref x) H2) E := by
  intro x dx nx nd ne
  have sm : Same H1 (upd (upd H1 dx (.own x)) x (.ins C dx [])) := fun b o hb => by
    rw [upd_ne (ne_of_none hb nx), upd_ne (ne_of_none hb nd)]
    exact hb
  have after : ∀ {H' : Hp}, Bt x (upd (upd H1 dx (.own x)) x (.ins C dx [])) H' → Same H1 H' := fun {H'} k b o hb => k b o (ne_of_none hb nx) (sm _ _ hb)
  refine ⟨x, p, C, dx, zs, rfl, hC, upd_same, hp.same sm, lz, hz, ?_⟩
  unfold MkOut at q
  unfold Inits
  cases hb : bad1 zs with
  | some z =>
    rw [hb] at q
    exact fun B d H' hB k nd' hd => q B d H' hB (s.trans (after k)) (Same.free s (free_new (free_new nd'))) hd
  | none =>
    rw [hb] at q
    by_cases hn : zs.Nodup
    · rw [if_pos hn] at q
      show if zs.Nodup then _ else _
      rw [if_pos hn]
      exact fun H' t k e1 e2 => ⟨rfl, q H' x (s.trans (after k)) (Same.free s nx) ⟨C, dx, t, hC, e1, e2⟩⟩
    · rw [if_neg hn] at q
      show if zs.Nodup then _ else _
      rw [if_neg hn]
      exact fun B H' hB k => q B H' hB (s.trans (after k))
def sp_KeyOrder___contains__ (K : PySem.W.Frag) : Sp := fun vs H Q _ => ∃ (a : Addr) (z : Str) (zs : List Str), vs = [.ref a, .str z] ∧ OrAt K H a zs ∧ Q (.bl (decide (z ∈ zs))) H
theorem len_KeyOrder___contains__ {vs : List V} {H : Hp} {Q : VK} {E : XK} (h : sp_KeyOrder___contains__ K vs H Q E) : vs.length = 2 := by
  obtain ⟨_, _, _, rfl, _⟩ := h
  rfl
theorem ok_KeyOrder___contains__ {f : Addr} {fd : FuncData} (F : Fun K "__contains__" "KeyOrder.__contains__" s_KeyOrder___contains__ f fd) (T : Gs K mg t_LETTERS t_LONGEST_NAME a_RESERVED a_BadName a_BadOrder a_ElseputError a_KeyOrder a_UnknownField a_UnknownKey a_UnknownName a_UnknownShape) : FnOk P w K mg base CX0 1 f fd ["self", "name"] (sp_KeyOrder___contains__ K) := by
  refine F.ok sc_KeyOrder___contains__ (fun vs H Q E h => len_KeyOrder___contains__ h) (fun cdv A outer s H vs Q E hr h => ?_)
  obtain ⟨a, z, zs, rfl, ⟨C, dx, t, hC, ha, ht⟩, q⟩ := h
  cases hC.symm.trans T.n_KeyOrder
  refine ⟨_, (pss_one (ps_ret (pe_c (inK K) (v_ 1) (e_f K (v_ 0))))), ?_⟩
  refine ⟨a, a_KeyOrder, dx, _, _, rfl, ha, T.cl_KeyOrder, T.na_KeyOrder_names, rfl, ?_⟩
  refine ⟨_, .inr (SqT.of ht), rfl, flat_strs, ?_⟩
  show Q (.bl (inV (.str z) (zs.map V.str))) H
  rw [inV_str]
  exact q
def sp_KeyOrder___len__ (K : PySem.W.Frag) : Sp := fun vs H Q _ => ∃ (a : Addr) (zs : List Str), vs = [.ref a] ∧ OrAt K H a zs ∧ Q (.int (zs.length : Int)) H
theorem len_KeyOrder___len__ {vs : List V} {H : Hp} {Q : VK} {E : XK} (h : sp_KeyOrder___len__ K vs H Q E) : vs.length = 1 := by
  obtain ⟨_, _, rfl, _⟩ := h
  rfl
theorem ok_KeyOrder___len__ {f : Addr} {fd : FuncData} (F : Fun K "__len__" "KeyOrder.__len__" s_KeyOrder___len__ f fd) (T : Gs K mg t_LETTERS t_LONGEST_NAME a_RESERVED a_BadName a_BadOrder a_ElseputError a_KeyOrder a_UnknownField a_UnknownKey a_UnknownName a_UnknownShape) : FnOk P w K mg base CX0 1 f fd ["self"] (sp_KeyOrder___len__ K) := by
  refine F.ok sc_KeyOrder___len__ (fun vs H Q E h => len_KeyOrder___len__ h) (fun cdv A outer s H vs Q E hr h => ?_)
  obtain ⟨a, zs, rfl, ⟨C, dx, t, hC, ha, ht⟩, q⟩ := h
  cases hC.symm.trans T.n_KeyOrder
  refine ⟨_, (pss_one (ps_ret (pe_callB (lenK K) (by rfl) T.z_len PySem.boot_len (pa_cons (e_f K (v_ 0)) pa_nil)))), ?_⟩
  refine ⟨a, a_KeyOrder, dx, _, _, rfl, ha, T.cl_KeyOrder, T.na_KeyOrder_names, rfl, ?_⟩
  refine .inl ⟨_, .inr (SqT.of ht), ?_⟩
  rw [List.length_map]
  exact q
def sp_KeyOrder___iter__ (K : PySem.W.Frag) : Nat → Sp := fun n vs H Q _ => ∃ (a : Addr) (zs : List Str), vs = [.ref a] ∧ OrAt K H a zs ∧ ∀ t it, H t = some (.tup (zs.map V.str)) → H it = none → n ≤ it → Q (.ref it) (upd H it (TitO t it))
theorem len_KeyOrder___iter__ {n : Nat} {vs : List V} {H : Hp} {Q : VK} {E : XK} (h : sp_KeyOrder___iter__ K n vs H Q E) : vs.length = 1 := by
  obtain ⟨_, _, rfl, _⟩ := h
  rfl
theorem ok_KeyOrder___iter__ {f : Addr} {fd : FuncData} (F : Fun K "__iter__" "KeyOrder.__iter__" s_KeyOrder___iter__ f fd) (B : Binds K fd ["self"] []) (T : Gs K mg t_LETTERS t_LONGEST_NAME a_RESERVED a_BadName a_BadOrder a_ElseputError a_KeyOrder a_UnknownField a_UnknownKey a_UnknownName a_UnknownShape) : FnS P w K mg base CX0 1 f (sp_KeyOrder___iter__ K) := by
  refine fun_okS F sc_KeyOrder___iter__ B (fun n vs H Q E h => len_KeyOrder___iter__ h) (fun cdv A outer s H vs Q E hr h => ?_)
  obtain ⟨a, zs, rfl, ⟨C, dx, t, hC, ha, ht⟩, q⟩ := h
  cases hC.symm.trans T.n_KeyOrder
  refine ⟨_, (pss_one (ps_ret (pe_callB (iterTK K s.heap.objs.size) (by rfl) T.z_iter (by decide +kernel) (pa_cons (e_f K (v_ 0)) pa_nil)))), ?_⟩
  refine ⟨a, a_KeyOrder, dx, _, _, rfl, ha, T.cl_KeyOrder, T.na_KeyOrder_names, rfl, ?_⟩
  exact ⟨t, _, rfl, SqT.of ht, fun it n1 n2 => q t it ht n1 n2⟩
def sp_KeyOrder___getitem__ (K : PySem.W.Frag) : Sp := fun vs H Q E => ∃ (a : Addr) (z : Str) (zs : List Str), vs = [.ref a, .str z] ∧ OrAt K H a zs ∧ zs.length ≤ 20 ∧ z.length ≤ 1000 ∧ Asc z ∧
  (∀ (i : Nat) (H' : Hp), zs[i]? = some z → (∀ j, j < i → zs[j]? ≠ some z) → Same H H' → Q (.int (i : Int)) H') ∧ (z ∉ zs → UnkN K H z E)
theorem len_KeyOrder___getitem__ {vs : List V} {H : Hp} {Q : VK} {E : XK} (h : sp_KeyOrder___getitem__ K vs H Q E) : vs.length = 2 := by
  obtain ⟨_, _, _, rfl, _⟩ := h
  rfl
theorem ok_KeyOrder___getitem__ {f : Addr} {fd : FuncData} {f_UnknownKey : Addr} {fd_UnknownKey : FuncData} (F : Fun K "__getitem__" "KeyOrder.__getitem__" s_KeyOrder___getitem__ f fd) (T : Gs K mg t_LETTERS t_LONGEST_NAME a_RESERVED a_BadName a_BadOrder a_ElseputError a_KeyOrder a_UnknownField a_UnknownKey a_UnknownName a_UnknownShape) (c_UnknownKey : CalEI P w K mg base 1 "UnknownKey" a_UnknownKey f_UnknownKey fd_UnknownKey ["self", "name"] okx_UnknownKey fs_UnknownKey ["name"]) : FnOk P w K mg base (L2.CX P w) 3 f fd ["self", "name"] (sp_KeyOrder___getitem__ K) := by
  refine F.okX sc_KeyOrder___getitem__ (fun vs H Q E h => len_KeyOrder___getitem__ h) (fun cdv A outer s H vs Q E hr h => ?_)
  obtain ⟨a, z, zs, rfl, ⟨C, dx, t, hC, ha, ht⟩, lz, z1, z2, q1, q2⟩ := h
  cases hC.symm.trans T.n_KeyOrder
  refine ⟨_, (pss_cons (ps_setLc (i := 2) (own := [("rank", 3), ("other", 4)]) (g := gTup K 2 (gCons (gName 3) (gCons (gName 4) gNil))) (by rfl) sc_KeyOrder___getitem__.nd rfl rfl (sw_true rfl rfl rfl (by decide +kernel)) (pi_enumT (by rfl) T.z_enumerate (pa_cons (e_f K (v_ 0)) pa_nil)) (blkOk_by (N := ["self", "name", "ranks", "rank", "other"]) (sc := defScope s_KeyOrder___getitem__) (by decide +kernel)) (fun _ _ _ _ _ => pg_tupK K (by rfl) (pgs_cons (pg_name (i := 3) sc_KeyOrder___getitem__.nd rfl (Or.inl rfl)) (pgs_cons (pg_name (i := 4) sc_KeyOrder___getitem__.nd rfl (Or.inl rfl)) pgs_nil))) (fun _ _ _ _ _ => pts_one (pt_c (eqK K hr.units) (v_ 4) (v_ 1))) (fun _ _ _ _ _ => (v_ 3))) (pss_cons (ps_if (pt_c (eqK K hr.units) (pe_callB (lenK K) (by rfl) T.z_len PySem.boot_len (pa_cons (v_ 2) pa_nil)) pe_int) (pss_one (ps_raise rfl (takes_of rfl rfl rfl rfl) (pmk_oex c_UnknownKey.oex c_UnknownKey.iC c_UnknownKey.tI c_UnknownKey.G (hr.mono (by first | decide | omega)) c_UnknownKey.b .nil pass0 rfl c_UnknownKey.m (pa_cons (v_ 1) pa_nil)))) pss_nil) (pss_one (ps_ret (e_x K (v_ 2) pe_int))))), ?_⟩
  refine ⟨a, a_KeyOrder, dx, _, _, rfl, ha, T.cl_KeyOrder, T.na_KeyOrder_names, rfl, ?_⟩
  refine ⟨t, _, rfl, SqT.of ht, fun D nD => ?_⟩
  refine lc_it walk_enumT (fun i H' => Same H H' ∧ ∃ ks : List Nat, H' D = some (.lst (ks.map fun k : Nat => V.int (k : Int))) ∧ ks.length ≤ i ∧ (match ks with
    | [] => ∀ j, j < i → zs[j]? ≠ some z
    | k :: _ => k < i ∧ zs[k]? = some z ∧ ∀ j, j < k → zs[j]? ≠ some z)) ⟨same_new nD, [], upd_same, Nat.le_refl _, fun j hj => absurd hj (Nat.not_lt_zero _)⟩ (fun _ _ _ h => SqT.of (h.1 _ _ ht)) ?_ ?_
  · rintro i v H1 H2 hi ⟨sm, ks, hD, lk, hk⟩ ⟨T1, x, y, rfl, nT, rfl, ex, ey⟩
    rw [List.length_map] at hi
    cases ex
    have ey : (zs.map V.str)[i]? = some y := ey
    rw [List.getElem?_map] at ey
    obtain ⟨u, eu, rfl⟩ := Option.map_eq_some_iff.mp ey
    have s2 := same_new (o := .tup [.int (i : Int), .str u]) nT
    have DT : D ≠ T1 := ne_of_none hD nT
    have hD2 : (upd H1 T1 (.tup [.int (i : Int), .str u])) D = some (.lst (ks.map fun k : Nat => V.int (k : Int))) := s2 _ _ hD
    have sm2 := sm.trans s2
    have ht1 : (upd H1 T1 (.tup [.int (i : Int), .str u])) T1 = some (.tup [.int (i : Int), .str u]) := upd_same
    generalize upd H1 T1 (.tup [.int (i : Int), .str u]) = H2 at hD2 sm2 ht1 ⊢
    refine ⟨T1, _, rfl, SqT.of ht1, rfl, _, _, rfl, _, _, rfl, rfl, rfl, ?_⟩
    refine ite2 (fun e => ?_) (fun e => ?_)
    · have e : u = z := of_decide_eq_true e
      subst e
      refine ⟨_, hD2, line_lt (by rw [List.length_map]; omega), fun b o hb => ?_, ks ++ [i], ?_, by rw [List.length_append, List.length_singleton]; omega, ?_⟩
      · rw [upd_ne (ne_of_none hb nD)]
        exact sm2 _ _ hb
      · rw [upd_same, List.map_append]
        rfl
      · cases ks with
        | nil => exact ⟨Nat.lt_succ_self _, eu, hk⟩
        | cons k r => exact ⟨Nat.lt_succ_of_lt hk.1, hk.2.1, hk.2.2⟩
    · have e : ¬ u = z := of_decide_eq_false (Bool.eq_false_iff.mpr e)
      refine ⟨sm2, ks, hD2, by omega, ?_⟩
      cases ks with
      | nil =>
        intro j hj h
        by_cases ej : j = i
        · rw [ej, eu] at h
          exact e (Option.some.inj h)
        · exact hk j (by omega) h
      | cons k r => exact ⟨Nat.lt_succ_of_lt hk.1, hk.2.1, hk.2.2⟩
  rintro H1 ⟨sm, ks, hD, lk, hk⟩
  refine .inl ⟨_, .inl (SqL.of hD), ?_⟩
  refine ite2 (fun e => ?_) (fun e => ?_)
  · have e : ks = [] := by
      have e : ((ks.map fun k : Nat => V.int (k : Int)).length : Int) = 0 := of_decide_eq_true e
      rw [List.length_map] at e
      exact List.length_eq_zero_iff.mp (by omega)
    subst e
    have nz : z ∉ zs := fun hm => by
      obtain ⟨j, hj, ej⟩ := List.getElem_of_mem hm
      exact hk j (by rw [List.length_map]; exact hj) (by rw [List.getElem?_eq_getElem hj, ej])
    refine mk_spE (by show 1 ≤ 1000; decide) ⟨z, rfl, z1, z2⟩ (fun d nd => ?_)
    exact q2 nz a_UnknownKey d _ T.n_UnknownKey (sm.trans (same_new nd)) (Same.free sm nd) upd_same
  · cases ks with
    | nil => exact absurd rfl e
    | cons k r =>
      refine ⟨_, .inl (SqL.of hD), .int (k : Int), atI_nat (j := 0) rfl, ?_⟩
      exact q1 k H1 hk.2.1 hk.2.2 sm
theorem fm_len {f : Str → List Str} {n : Nat} (h : ∀ y, (f y).length ≤ n) : ∀ {l : List Str}, (l.flatMap f).length ≤ l.length * n
  | [] => by simp
  | y :: r => by
    rw [List.flatMap_cons, List.length_append, List.length_cons, Nat.succ_mul]
    have := h y
    have := fm_len h (l := r)
    omega
/-- the names of ns by their places in zs -/
def byRank (zs ns : List Str) : List Str := zs.flatMap fun y => ns.filter fun z => decide (z = y)
def CallOut (K : PySem.W.Frag) (H : Hp) (zs ns : List Str) (Q : VK) (E : XK) : Prop := match ns.find? (fun z => decide (z ∉ zs)) with
  | some z => UnkN K H z E
  | none => ∀ (H' : Hp) (D : Addr), Same H H' → H D = none → H' D = some (.lst ((byRank zs ns).map V.str)) → Q (.ref D) H'
theorem unk_none {zs ns : List Str} (h : ∀ z ∈ ns, z ∈ zs) : ns.find? (fun z => decide (z ∉ zs)) = none := by
  rw [List.find?_eq_none]
  intro z hz
  simp [h z hz]
theorem unk_at {zs ns : List Str} {i : Nat} {z : Str} (h : ∀ y ∈ ns.take i, y ∈ zs) (e : ns[i]? = some z) (hz : z ∉ zs) : ns.find? (fun z => decide (z ∉ zs)) = some z := by
  have e1 : ns = ns.take i ++ ns.drop i := (List.take_append_drop i ns).symm
  obtain ⟨hi, e2⟩ := List.getElem?_eq_some_iff.mp e
  have e3 : ns.drop i = z :: ns.drop (i + 1) := by rw [List.drop_eq_getElem_cons hi, e2]
  rw [e1, List.find?_append, e3, unk_none h, List.find?_cons_of_pos (by simp [hz])]
  rfl
def sp_KeyOrder___call__ (K : PySem.W.Frag) : Sp := fun vs H Q E => ∃ (a p : Addr) (zs ns : List Str), vs = [.ref a, .ref p] ∧ OrAt K H a zs ∧ SeqS H p ns ∧ zs.length ≤ 20 ∧ ns.length ≤ 20 ∧ (∀ z ∈ ns, z.length ≤ 1000 ∧ Asc z) ∧ CallOut K H zs ns Q E
theorem len_KeyOrder___call__ {vs : List V} {H : Hp} {Q : VK} {E : XK} (h : sp_KeyOrder___call__ K vs H Q E) : vs.length = 2 := by
  obtain ⟨_, _, _, _, rfl, _⟩ := h
  rfl
theorem ok_KeyOrder___call__ {f : Addr} {fd : FuncData} {f_UnknownKey : Addr} {fd_UnknownKey : FuncData} (F : Fun K "__call__" "KeyOrder.__call__" s_KeyOrder___call__ f fd) (T : Gs K mg t_LETTERS t_LONGEST_NAME a_RESERVED a_BadName a_BadOrder a_ElseputError a_KeyOrder a_UnknownField a_UnknownKey a_UnknownName a_UnknownShape) (c_UnknownKey : CalEI P w K mg base 1 "UnknownKey" a_UnknownKey f_UnknownKey fd_UnknownKey ["self", "name"] okx_UnknownKey fs_UnknownKey ["name"]) : FnOk P w K mg base (L2.CX P w) 3 f fd ["self", "names"] (sp_KeyOrder___call__ K) := by
  refine F.okX sc_KeyOrder___call__ (fun vs H Q E h => len_KeyOrder___call__ h) (fun cdv A outer s H vs Q E hr h => ?_)
  obtain ⟨a, p, zs, ns, rfl, ⟨C, dx, t, hC, ha, ht⟩, hp, lz, ln, hz, q⟩ := h
  cases hC.symm.trans T.n_KeyOrder
  refine ⟨_, (pss_cons (ps_for (passes_of rfl) rfl (pi_seqK K (v_ 1)) (pg_name (i := 2) sc_KeyOrder___call__.nd rfl (.inl rfl)) (pss_one (ps_if (pt_c (notInK K) (v_ 2) (e_f K (v_ 0))) (pss_one (ps_raise rfl (takes_of rfl rfl rfl rfl) (pmk_oex c_UnknownKey.oex c_UnknownKey.iC c_UnknownKey.tI c_UnknownKey.G (hr.mono (by first | decide | omega)) c_UnknownKey.b .nil pass0 rfl c_UnknownKey.m (pa_cons (v_ 2) pa_nil)))) pss_nil))) (pss_one (ps_ret (pe_lc2 (own := [("ranked", 3), ("name", 2)]) (vs1 := [2]) (g := gName 3) (g1 := gName 2) (by rfl) sc_KeyOrder___call__.nd (pi_tup (e_f K (v_ 0))) (blkOk_by (N := ["self", "names", "name", "ranked"]) (sc := defScope s_KeyOrder___call__) (by decide +kernel)) (by decide) (fun _ _ _ _ _ => pg_name (i := 3) sc_KeyOrder___call__.nd rfl (Or.inl rfl)) (fun _ _ _ _ _ => pts_nil) (fun _ _ _ _ _ => (pi_seqK K (v_ 1))) (fun _ _ _ _ _ => pg_name (i := 2) sc_KeyOrder___call__.nd rfl (Or.inl rfl)) (fun _ _ _ _ _ => pts_one (pt_c (eqK K hr.units) (v_ 2) (v_ 3))) (fun _ _ _ _ _ => (v_ 2)))))), ?_⟩
  unfold CallOut at q
  rcases hp with hp | hp
  · refine ⟨p, ns.map V.str, rfl, .inl ⟨SqL.of hp, ?_⟩⟩
    refine for_list (K := K) (a := p) (xs := ns.map V.str) (fun i σ' H' => (∃ y, σ' = [some (.ref a), some (.ref p), y, none]) ∧ H' = H ∧ ∀ y ∈ ns.take i, y ∈ zs) ⟨⟨_, rfl⟩, rfl, fun _ h => nomatch h⟩ (fun i σ' H' _ h => by rw [h.2.1]; exact SqL.of hp) ?_ ?_
    · rintro i v σ' H' hi ⟨⟨y, rfl⟩, rfl, hn⟩
      rw [List.getElem?_map] at hi
      obtain ⟨z, ez, rfl⟩ := Option.map_eq_some_iff.mp hi
      obtain ⟨z1, z2⟩ := hz z (List.mem_of_getElem? ez)
      refine ⟨a, a_KeyOrder, dx, _, _, rfl, ha, T.cl_KeyOrder, T.na_KeyOrder_names, rfl, _, .inr (SqT.of ht), rfl, flat_strs, ?_⟩
      refine ite2 (fun e => ?_) (fun e => ?_)
      · have e : z ∉ zs := by
          have e : (!inV (.str z) (zs.map V.str)) = true := e
          rw [inV_str] at e
          simpa using e
        rw [unk_at hn ez e] at q
        refine mk_spE (by show 1 ≤ 1000; decide) ⟨z, rfl, z1, z2⟩ (fun d nd => ?_)
        exact q a_UnknownKey d _ T.n_UnknownKey (same_new nd) nd upd_same
      · have e : z ∈ zs := by
          have e : ¬ (!inV (.str z) (zs.map V.str)) = true := e
          rw [inV_str] at e
          simpa using e
        refine ⟨⟨_, rfl⟩, rfl, fun y hy => ?_⟩
        rw [take_snoc ez] at hy
        rcases List.mem_append.mp hy with h | h
        · exact hn y h
        · rw [List.mem_singleton.mp h]
          exact e
    rintro σ' H' ⟨⟨y, rfl⟩, rfl, hn⟩
    rw [List.length_map, List.take_length] at hn
    rw [unk_none hn] at q
    refine ⟨a, a_KeyOrder, dx, _, _, rfl, ha, T.cl_KeyOrder, T.na_KeyOrder_names, rfl, t, rfl, ⟨_, SqT.of ht⟩, fun D nD => ?_⟩
    refine lc2_it (walk_tup (xs := zs.map V.str)) (fun i H1 => Same H' H1 ∧ H1 D = some (.lst ((byRank (zs.take i) ns).map V.str))) ⟨same_new nD, upd_same⟩ (fun _ _ _ h => SqT.of (h.1 _ _ ht)) ?_ ?_
    · rintro i v H1 H2 hi ⟨sm, hD⟩ ⟨rfl, hv⟩
      have hv : (zs.map V.str)[i]? = some v := hv
      rw [List.getElem?_map] at hv
      obtain ⟨y, ey, rfl⟩ := Option.map_eq_some_iff.mp hv
      refine ⟨rfl, ?_⟩
      refine ⟨p, ns.map V.str, rfl, .inl ⟨SqL.of (sm _ _ hp), ?_⟩⟩
      refine inner2_it (walk_list (xs := ns.map V.str)) (fun j H3 => Same H' H3 ∧ H3 D = some (.lst ((byRank (zs.take i) ns ++ (ns.take j).filter fun z => decide (z = y)).map V.str))) ⟨sm, by rw [hD, List.take_zero, List.filter_nil, List.append_nil]⟩ (fun _ _ _ h => SqL.of (h.1 _ _ hp)) ?_ ?_
      · rintro j v H3 H4 hj ⟨s3, hD3⟩ ⟨rfl, hv⟩
        have hv : (ns.map V.str)[j]? = some v := hv
        rw [List.getElem?_map] at hv
        obtain ⟨z, ez, rfl⟩ := Option.map_eq_some_iff.mp hv
        refine ⟨rfl, ?_⟩
        refine ite2 (fun e => ?_) (fun e => ?_)
        · have e : z = y := of_decide_eq_true e
          refine ⟨_, hD3, line_lt ?_, fun b o hb => ?_, ?_⟩
          · have h1 : (byRank (zs.take i) ns).length ≤ (zs.take i).length * 20 := fm_len fun y => Nat.le_trans (List.length_filter_le _ _) ln
            have h2 := List.length_filter_le (fun z => decide (z = y)) (ns.take j)
            rw [List.length_map, List.length_append]
            rw [List.length_take] at h1 h2
            omega
          · rw [upd_ne (ne_of_none hb nD)]
            exact s3 _ _ hb
          · have e5 : (ns.take (j + 1)).filter (fun z => decide (z = y)) = (ns.take j).filter (fun z => decide (z = y)) ++ [z] := by rw [take_snoc ez, List.filter_append, List.filter_cons_of_pos (by simpa using e), List.filter_nil]
            rw [upd_same, e5]
            simp
        · have e : ¬ z = y := of_decide_eq_false (Bool.eq_false_iff.mpr e)
          refine ⟨s3, ?_⟩
          rw [hD3, take_snoc ez, List.filter_append, List.filter_cons_of_neg (by simpa using e), List.filter_nil, List.append_nil]
      · rintro H3 ⟨s3, hD3⟩
        refine ⟨s3, ?_⟩
        rw [hD3, List.length_map, List.take_length]
        unfold byRank
        rw [take_snoc ey, List.flatMap_append, List.flatMap_cons, List.flatMap_nil, List.append_nil]
    · rintro H1 ⟨sm, hD⟩
      rw [List.length_map, List.take_length] at hD
      exact q H1 D sm nD hD
  · refine ⟨p, ns.map V.str, rfl, .inr ⟨SqT.of hp, ?_⟩⟩
    refine for_tup (K := K) (a := p) (xs := ns.map V.str) (fun i σ' H' => (∃ y, σ' = [some (.ref a), some (.ref p), y, none]) ∧ H' = H ∧ ∀ y ∈ ns.take i, y ∈ zs) ⟨⟨_, rfl⟩, rfl, fun _ h => nomatch h⟩ (fun i σ' H' _ h => by rw [h.2.1]; exact SqT.of hp) ?_ ?_
    · rintro i v σ' H' hi ⟨⟨y, rfl⟩, rfl, hn⟩
      rw [List.getElem?_map] at hi
      obtain ⟨z, ez, rfl⟩ := Option.map_eq_some_iff.mp hi
      obtain ⟨z1, z2⟩ := hz z (List.mem_of_getElem? ez)
      refine ⟨a, a_KeyOrder, dx, _, _, rfl, ha, T.cl_KeyOrder, T.na_KeyOrder_names, rfl, _, .inr (SqT.of ht), rfl, flat_strs, ?_⟩
      refine ite2 (fun e => ?_) (fun e => ?_)
      · have e : z ∉ zs := by
          have e : (!inV (.str z) (zs.map V.str)) = true := e
          rw [inV_str] at e
          simpa using e
        rw [unk_at hn ez e] at q
        refine mk_spE (by show 1 ≤ 1000; decide) ⟨z, rfl, z1, z2⟩ (fun d nd => ?_)
        exact q a_UnknownKey d _ T.n_UnknownKey (same_new nd) nd upd_same
      · have e : z ∈ zs := by
          have e : ¬ (!inV (.str z) (zs.map V.str)) = true := e
          rw [inV_str] at e
          simpa using e
        refine ⟨⟨_, rfl⟩, rfl, fun y hy => ?_⟩
        rw [take_snoc ez] at hy
        rcases List.mem_append.mp hy with h | h
        · exact hn y h
        · rw [List.mem_singleton.mp h]
          exact e
    rintro σ' H' ⟨⟨y, rfl⟩, rfl, hn⟩
    rw [List.length_map, List.take_length] at hn
    rw [unk_none hn] at q
    refine ⟨a, a_KeyOrder, dx, _, _, rfl, ha, T.cl_KeyOrder, T.na_KeyOrder_names, rfl, t, rfl, ⟨_, SqT.of ht⟩, fun D nD => ?_⟩
    refine lc2_it (walk_tup (xs := zs.map V.str)) (fun i H1 => Same H' H1 ∧ H1 D = some (.lst ((byRank (zs.take i) ns).map V.str))) ⟨same_new nD, upd_same⟩ (fun _ _ _ h => SqT.of (h.1 _ _ ht)) ?_ ?_
    · rintro i v H1 H2 hi ⟨sm, hD⟩ ⟨rfl, hv⟩
      have hv : (zs.map V.str)[i]? = some v := hv
      rw [List.getElem?_map] at hv
      obtain ⟨y, ey, rfl⟩ := Option.map_eq_some_iff.mp hv
      refine ⟨rfl, ?_⟩
      refine ⟨p, ns.map V.str, rfl, .inr ⟨SqT.of (sm _ _ hp), ?_⟩⟩
      refine inner2_it (walk_tup (xs := ns.map V.str)) (fun j H3 => Same H' H3 ∧ H3 D = some (.lst ((byRank (zs.take i) ns ++ (ns.take j).filter fun z => decide (z = y)).map V.str))) ⟨sm, by rw [hD, List.take_zero, List.filter_nil, List.append_nil]⟩ (fun _ _ _ h => SqT.of (h.1 _ _ hp)) ?_ ?_
      · rintro j v H3 H4 hj ⟨s3, hD3⟩ ⟨rfl, hv⟩
        have hv : (ns.map V.str)[j]? = some v := hv
        rw [List.getElem?_map] at hv
        obtain ⟨z, ez, rfl⟩ := Option.map_eq_some_iff.mp hv
        refine ⟨rfl, ?_⟩
        refine ite2 (fun e => ?_) (fun e => ?_)
        · have e : z = y := of_decide_eq_true e
          refine ⟨_, hD3, line_lt ?_, fun b o hb => ?_, ?_⟩
          · have h1 : (byRank (zs.take i) ns).length ≤ (zs.take i).length * 20 := fm_len fun y => Nat.le_trans (List.length_filter_le _ _) ln
            have h2 := List.length_filter_le (fun z => decide (z = y)) (ns.take j)
            rw [List.length_map, List.length_append]
            rw [List.length_take] at h1 h2
            omega
          · rw [upd_ne (ne_of_none hb nD)]
            exact s3 _ _ hb
          · have e5 : (ns.take (j + 1)).filter (fun z => decide (z = y)) = (ns.take j).filter (fun z => decide (z = y)) ++ [z] := by rw [take_snoc ez, List.filter_append, List.filter_cons_of_pos (by simpa using e), List.filter_nil]
            rw [upd_same, e5]
            simp
        · have e : ¬ z = y := of_decide_eq_false (Bool.eq_false_iff.mpr e)
          refine ⟨s3, ?_⟩
          rw [hD3, take_snoc ez, List.filter_append, List.filter_cons_of_neg (by simpa using e), List.filter_nil, List.append_nil]
      · rintro H3 ⟨s3, hD3⟩
        refine ⟨s3, ?_⟩
        rw [hD3, List.length_map, List.take_length]
        unfold byRank
        rw [take_snoc ey, List.flatMap_append, List.flatMap_cons, List.flatMap_nil, List.append_nil]
    · rintro H1 ⟨sm, hD⟩
      rw [List.length_map, List.take_length] at hD
      exact q H1 D sm nD hD
end
section
variable {P : Program} {w : World} {K : PySem.W.Frag} {mg : Str → Option Value} {base : Heap}
variable {t_LETTERS t_LONGEST_NAME : Tok} {a_RESERVED a_BadName a_BadOrder a_ElseputError a_KeyOrder a_UnknownField a_UnknownKey a_UnknownName a_UnknownShape : Addr}
def sp__law_draw (K : PySem.W.Frag) : Sp := fun vs H Q _ => ∃ (st scr : Addr) (many : Int), vs = [.ref st, .int many] ∧ DrAt H st scr ∧ 0 < many ∧ many.natAbs < 2 ^ 200 ∧
  ∀ (r : Int) (l : List V), 0 ≤ r → r < many → DrAt (upd H st (.lst l)) st scr → Q (.int r) (upd H st (.lst l))
theorem len__law_draw {vs : List V} {H : Hp} {Q : VK} {E : XK} (h : sp__law_draw K vs H Q E) : vs.length = 2 := by
  obtain ⟨_, _, _, rfl, _⟩ := h
  rfl
theorem ok__law_draw {f : Addr} {fd : FuncData} (F : Fun K "_law_draw" "_law_draw" s__law_draw f fd) (T : Gs K mg t_LETTERS t_LONGEST_NAME a_RESERVED a_BadName a_BadOrder a_ElseputError a_KeyOrder a_UnknownField a_UnknownKey a_UnknownName a_UnknownShape) : FnOk P w K mg base CX0 1 f fd ["_law_state_here", "_law_many"] (sp__law_draw K) := by
  refine F.ok sc__law_draw (fun vs H Q E h => len__law_draw h) (fun cdv A outer s H vs Q E hr h => ?_)
  obtain ⟨st, scr, many, rfl, ⟨ns, i, v, m, c, hst, hscr, hl, h0⟩, hm0, hm1, q⟩ := h
  have hne := DrAt.ne hst hscr
  refine ⟨_, (Evl.pss_cut (ps_if (pt_c (eqK K hr.units) (e_x K (v_ 0) pe_int) pe_int) (pss_cons (ps_if (pt_c op_geM (e_x K (v_ 0) pe_int) (pe_callB (lenK K) (by rfl) T.z_len PySem.boot_len (pa_cons (e_x K (v_ 0) pe_int) pa_nil))) (pss_one (ps_ret pe_int)) pss_nil) (pss_cons (ps_asg (pe_callTy call_intM (by rfl) T.z_int (by decide +kernel) (pa_cons (e_x K (e_x K (v_ 0) pe_int) (e_x K (v_ 0) pe_int)) pa_nil)) (pg_sub (v_ 0) pe_int set_list)) (pss_cons (ps_asg (pe_op (addK K) (e_x K (v_ 0) pe_int) pe_int) (pg_sub (v_ 0) pe_int set_list)) (pss_cons (ps_asg pe_int (pg_sub (v_ 0) pe_int set_list)) (pss_cons (ps_asg pe_int (pg_sub (v_ 0) pe_int set_list)) (pss_one (ps_if (pt_c op_ltM (e_x K (v_ 0) pe_int) (pe_op op_powM pe_int pe_int)) (pss_one (ps_asg pe_int (pg_sub (v_ 0) pe_int set_list))) pss_nil))))))) pss_nil) (pss_cons (ps_asg (pe_op (addK K) (e_x K (v_ 0) pe_int) pe_int) (pg_sub (v_ 0) pe_int set_list)) (pss_cons (ps_if (pt_c (eqK K hr.units) (e_x K (v_ 0) pe_int) pe_int) (pss_cons (ps_set (i := 5) sc__law_draw.nd rfl (.inl rfl) (pe_op op_modM (pe_callTy call_intM (by rfl) T.z_int (by decide +kernel) (pa_cons (e_x K (v_ 0) pe_int) pa_nil)) (v_ 1))) (pss_cons (ps_asg (pe_op op_divM (pe_callTy call_intM (by rfl) T.z_int (by decide +kernel) (pa_cons (e_x K (v_ 0) pe_int) pa_nil)) (v_ 1)) (pg_sub (v_ 0) pe_int set_list)) (Evl.pss_cut (ps_if (PW.pt (pw_or (pt_c (eqK K hr.units) (e_x K (v_ 0) pe_int) pe_int) (pw_or1 (pt_c op_geM (e_x K (v_ 0) pe_int) pe_int)))) (pss_one (ps_asg pe_int (pg_sub (v_ 0) pe_int set_list))) pss_nil) (pss_one (ps_ret (v_ 5)))))) pss_nil) (pss_cons (ps_set (i := 2) sc__law_draw.nd rfl (.inl rfl) (pe_op op_modM (pe_callTy call_intM (by rfl) T.z_int (by decide +kernel) (pa_cons (pe_op (addK K) (pe_op op_mulSM (e_x K (v_ 0) pe_int) pe_int) (pe_op op_mulSM (e_x K (v_ 0) pe_int) pe_int)) pa_nil)) pe_int)) (pss_cons (ps_set (i := 3) sc__law_draw.nd rfl (.inl rfl) (pe_op op_modM (pe_callTy call_intM (by rfl) T.z_int (by decide +kernel) (pa_cons (pe_op (addK K) (pe_op (addK K) (pe_op op_mulSM (v_ 2) (v_ 2)) (pe_op op_mulSM (e_x K (v_ 0) pe_int) pe_int)) pe_int) pa_nil)) pe_int)) (Evl.pss_cut (ps_if (pt_c op_geM (e_x K (v_ 0) pe_int) pe_int) (pss_one (ps_asg pe_int (pg_sub (v_ 0) pe_int set_list))) pss_nil) (pss_cons (ps_set (i := 4) sc__law_draw.nd rfl (.inl rfl) (pe_op op_modM (pe_callTy call_intM (by rfl) T.z_int (by decide +kernel) (pa_cons (pe_op (addK K) (pe_op op_mulSM (v_ 3) pe_int) (v_ 2)) pa_nil)) pe_int)) (pss_one (ps_ret (pe_op op_modM (pe_callTy call_intM (by rfl) T.z_int (by decide +kernel) (pa_cons (v_ 4) pa_nil)) (v_ 1))))))))))), ?_⟩
  refine ⟨fun σ' H' => σ' = [some (.ref st), some (.int many), none, none, none, none] ∧ ∃ i v m c, H' = upd H st (.lst (stv scr i v m c)) ∧ 0 ≤ i, ?_, ?_⟩
  · refine ⟨_, .inl (SqL.of hst), _, rfl, ?_⟩
    refine ite2 (fun e => ?_) (fun e => ?_)
    · refine ⟨_, .inl (SqL.of hst), _, rfl, _, .inl (SqL.of hst), _, rfl, .inl ⟨_, .inl (SqL.of hscr), ?_⟩⟩
      refine ite2 (fun e1 => ?_) (fun e1 => ?_)
      · have z := q 0 (stv scr i v m c) (by omega) hm0 (DrAt.upd hst hscr hl h0)
        rw [upd_id hst] at z
        exact z
      · have e2 := of_decide_eq_false (Bool.eq_false_iff.mpr e1)
        rw [List.length_map] at e2
        obtain ⟨z, hz⟩ : ∃ z, atI (ns.map V.int) i = some (.int z) := by
          have hi : i.toNat < ns.length := by omega
          refine ⟨ns[i.toNat], ?_⟩
          have hq : atI (ns.map V.int) ((i.toNat : Nat) : Int) = some (.int ns[i.toNat]) := atI_nat (by rw [List.getElem?_map, List.getElem?_eq_getElem hi]; rfl)
          rwa [show ((i.toNat : Nat) : Int) = i by omega] at hq
        refine ⟨_, .inl (SqL.of hst), _, rfl, _, .inl (SqL.of hst), _, rfl, _, .inl (SqL.of hscr), _, hz, ?_⟩
        refine ⟨_, _, _, 2, rfl, rfl, hst, rfl, ?_⟩
        refine ⟨_, .inl (SqL.of upd_same), _, rfl, ?_⟩
        refine ⟨_, _, _, 1, rfl, rfl, upd_same, rfl, ?_⟩
        refine ⟨_, _, _, 3, rfl, rfl, upd_same, rfl, ?_⟩
        refine ⟨_, _, _, 4, rfl, rfl, upd_same, rfl, ?_⟩
        refine ⟨_, .inl (SqL.of upd_same), _, rfl, (by unfold CPow; decide), ?_⟩
        refine ite2 (fun e3 => ?_) (fun e3 => ?_)
        · refine ⟨_, _, _, 3, rfl, rfl, upd_same, rfl, rfl, i + 1, z, 2, 0, ?_, by omega⟩
          rw [upd_upd, upd_upd, upd_upd, upd_upd]
          rfl
        · refine ⟨rfl, i + 1, z, 1, 0, ?_, by omega⟩
          rw [upd_upd, upd_upd, upd_upd]
          rfl
    · exact ⟨rfl, i, v, m, c, (upd_id hst).symm, h0⟩
  · rintro σ' H' ⟨rfl, i, v, m, c, rfl, h0⟩
    have hscr' : ∀ o, upd H st o scr = some (.lst (ns.map V.int)) := fun o => by rw [upd_ne hne]; exact hscr
    refine ⟨_, .inl (SqL.of upd_same), _, rfl, ?_⟩
    refine ⟨_, _, _, 4, rfl, rfl, upd_same, rfl, ?_⟩
    rw [upd_upd]
    refine ⟨_, .inl (SqL.of upd_same), _, rfl, ?_⟩
    refine ite2 (fun e => ?_) (fun e => ?_)
    · refine ⟨_, .inl (SqL.of upd_same), _, rfl, hm0, ?_⟩
      refine ⟨_, .inl (SqL.of upd_same), _, rfl, .inr (wide_div hm0 (b := 200) hm1 (by decide) (by decide)), ?_⟩
      refine ⟨_, _, _, 2, rfl, rfl, upd_same, rfl, ?_⟩
      rw [upd_upd]
      have fin : ∀ m' : Int, Q (.int (v % many)) (upd H st (.lst (stv scr i (v / many) m' (c + 1)))) := fun m' => q _ _ (Int.emod_nonneg _ (by omega)) (Int.emod_lt_of_pos _ hm0) (DrAt.upd hst hscr hl h0)
      refine ⟨fun σ' H' => σ' = [some (.ref st), some (.int many), none, none, none, some (.int (v % many))] ∧ ∃ m', H' = upd H st (.lst (stv scr i (v / many) m' (c + 1))), ?_, ?_⟩
      · refine ⟨_, .inl (SqL.of upd_same), _, rfl, ?_⟩
        refine ite2 (fun e1 => ?_) (fun e1 => ?_)
        · refine ⟨_, _, _, 3, rfl, rfl, upd_same, rfl, rfl, 0, ?_⟩
          rw [upd_upd]
          rfl
        · refine ⟨_, .inl (SqL.of upd_same), _, rfl, ?_⟩
          refine ite2 (fun e1 => ?_) (fun e1 => ?_)
          · refine ⟨_, _, _, 3, rfl, rfl, upd_same, rfl, rfl, 0, ?_⟩
            rw [upd_upd]
            rfl
          · exact ⟨rfl, m, rfl⟩
      · rintro σ' H' ⟨rfl, m', rfl⟩
        exact fin m'
    · refine ⟨_, .inl (SqL.of upd_same), _, rfl, .inl (.inr ⟨by decide, by decide⟩), ?_⟩
      refine ⟨_, .inl (SqL.of upd_same), _, rfl, .inl (.inr ⟨by decide, by decide⟩), (by decide), ?_⟩
      have f0 := Int.emod_nonneg (v * 48271 + (c + 1) * 69621) (by decide : (2147483647 : Int) ≠ 0)
      have f1 := Int.emod_lt_of_pos (v * 48271 + (c + 1) * 69621) (by decide : (0 : Int) < 2147483647)
      refine ⟨.inl (.inl ⟨by omega, by omega⟩), ?_⟩
      refine ⟨_, .inl (SqL.of upd_same), _, rfl, .inl (.inr ⟨by decide, by decide⟩), (by decide), ?_⟩
      have fin : ∀ (m' x : Int), Q (.int (x % many)) (upd H st (.lst (stv scr i v m' (c + 1)))) := fun m' x => q _ _ (Int.emod_nonneg _ (by omega)) (Int.emod_lt_of_pos _ hm0) (DrAt.upd hst hscr hl h0)
      refine ⟨fun σ' H' => (∃ a b, σ' = [some (.ref st), some (.int many), some (.int a), some (.int b), none, none]) ∧ ∃ m', H' = upd H st (.lst (stv scr i v m' (c + 1))), ?_, ?_⟩
      · refine ⟨_, .inl (SqL.of upd_same), _, rfl, ?_⟩
        refine ite2 (fun e1 => ?_) (fun e1 => ?_)
        · refine ⟨_, _, _, 3, rfl, rfl, upd_same, rfl, ⟨_, _, rfl⟩, 0, ?_⟩
          rw [upd_upd]
          rfl
        · exact ⟨⟨_, _, rfl⟩, m, rfl⟩
      · rintro σ' H' ⟨⟨a, b, rfl⟩, m', rfl⟩
        refine ⟨.inl (.inr ⟨by decide, by decide⟩), (by decide), hm0, ?_⟩
        exact fin m' _

/-! ### _law_state -/
def sp__law_state (K : PySem.W.Frag) : Sp := fun vs H Q _ => ∃ (a : Addr) (ns : List Int), vs = [.ref a] ∧ SqL K H a (ns.map V.int) ∧ ns.length ≤ 63 ∧
  ∀ (H' : Hp) (st scr : Addr), Same H H' → H st = none → H scr = none → DrAt H' st scr → Q (.ref st) H'
theorem len__law_state {vs : List V} {H : Hp} {Q : VK} {E : XK} (h : sp__law_state K vs H Q E) : vs.length = 1 := by
  obtain ⟨_, _, rfl, _⟩ := h
  rfl
theorem ok__law_state {f : Addr} {fd : FuncData} (F : Fun K "_law_state" "_law_state" s__law_state f fd) (T : Gs K mg t_LETTERS t_LONGEST_NAME a_RESERVED a_BadName a_BadOrder a_ElseputError a_KeyOrder a_UnknownField a_UnknownKey a_UnknownName a_UnknownShape) : FnOk P w K mg base CX0 1 f fd ["_law_script"] (sp__law_state K) := by
  refine F.ok sc__law_state (fun vs H Q E h => len__law_state h) (fun cdv A outer s H vs Q E hr h => ?_)
  obtain ⟨a, ns, rfl, hS, hl, q⟩ := h
  refine ⟨_, (pss_one (ps_ret (pe_lst (pa_cons (pe_callTy (listK K) (by rfl) T.z_list (by decide +kernel) (pa_cons (v_ 0) pa_nil)) (pa_cons pe_int (pa_cons pe_int (pa_cons pe_int (pa_cons pe_int pa_nil)))))))), ?_⟩
  refine ⟨_, _, rfl, .inl hS, fun l nl => ?_⟩
  refine ⟨(by show 5 ≤ sizeLine; decide), fun st nst => ?_⟩
  have hne := new_ne nst
  refine q _ st l ((same_new nl).trans (same_new nst)) (free_new nst) nl ⟨ns, 0, 0, 0, 0, upd_same, ?_, hl, by omega⟩
  rw [upd_ne hne.symm, upd_same]

/-! ### _law_pick -/
theorem at_list {α : Type} {xs : List α} {r : Int} (h0 : 0 ≤ r) (h1 : r < xs.length) : ∃ x, atI xs r = some x ∧ x ∈ xs := by
  have hi : r.toNat < xs.length := by omega
  refine ⟨xs[r.toNat], ?_, List.getElem_mem hi⟩
  have hq : atI xs ((r.toNat : Nat) : Int) = some xs[r.toNat] := atI_nat (List.getElem?_eq_getElem hi)
  rwa [show ((r.toNat : Nat) : Int) = r by omega] at hq
theorem at_str {z : Str} {r : Int} (h0 : 0 ≤ r) (h1 : r < z.length) : ∃ c, atI z.cps.toList r = some c ∧ c ∈ z.cps.toList := at_list h0 (by rw [len_cps]; exact h1)
theorem many_small {m : Int} (h0 : 0 < m) (h1 : m ≤ 1000000000) : m.natAbs < 2 ^ 200 := Nat.lt_of_le_of_lt (show m.natAbs ≤ 2 ^ 30 by omega) (Nat.pow_lt_pow_right (by decide) (by decide))
def sp__law_pick (K : PySem.W.Frag) : Sp := fun vs H Q _ => ∃ (st scr : Addr) (v : V), vs = [.ref st, v] ∧ DrAt H st scr ∧
  ((∃ z : Str, v = .str z ∧ 0 < z.length ∧ z.length ≤ 1000 ∧ ∀ (c : Nat) (l : List V), c ∈ z.cps.toList → DrAt (upd H st (.lst l)) st scr → Q (.str ⟨#[c]⟩) (upd H st (.lst l))) ∨
    ∃ (p : Addr) (xs : List V), v = .ref p ∧ H p = some (.lst xs) ∧ p ≠ st ∧ 0 < xs.length ∧ xs.length ≤ 1000 ∧ ∀ (x : V) (l : List V), x ∈ xs → DrAt (upd H st (.lst l)) st scr → Q x (upd H st (.lst l)))
theorem len__law_pick {vs : List V} {H : Hp} {Q : VK} {E : XK} (h : sp__law_pick K vs H Q E) : vs.length = 2 := by
  obtain ⟨_, _, _, rfl, _⟩ := h
  rfl
theorem ok__law_pick {f : Addr} {fd : FuncData} {f__law_draw : Addr} {fd__law_draw : FuncData} (F : Fun K "_law_pick" "_law_pick" s__law_pick f fd) (T : Gs K mg t_LETTERS t_LONGEST_NAME a_RESERVED a_BadName a_BadOrder a_ElseputError a_KeyOrder a_UnknownField a_UnknownKey a_UnknownName a_UnknownShape) (c__law_draw : Cal P w K mg base CX0 1 "_law_draw" f__law_draw fd__law_draw ["_law_state_here", "_law_many"] (sp__law_draw K)) : FnOk P w K mg base CX0 2 f fd ["_law_state_here", "_law_row"] (sp__law_pick K) := by
  refine F.ok sc__law_pick (fun vs H Q E h => len__law_pick h) (fun cdv A outer s H vs Q E hr h => ?_)
  obtain ⟨st, scr, v, rfl, hd, h⟩ := h
  refine ⟨_, (pss_one (ps_ret (e_x K (v_ 1) (pe_call c__law_draw.G (hr.mono (by first | decide | omega)) rfl c__law_draw.m c__law_draw.kp c__law_draw.b .nil pass0 (pa_cons (v_ 0) (pa_cons (pe_callB (lenK K) (by rfl) T.z_len PySem.boot_len (pa_cons (v_ 1) pa_nil)) pa_nil)))))), ?_⟩
  rcases h with ⟨z, rfl, h0, h1, q⟩ | ⟨p, xs, rfl, hp, hne, h0, h1, q⟩
  · refine ⟨line_of (by omega), st, scr, _, rfl, hd, by omega, many_small (by omega) (by omega), fun r l r0 r1 hd' => ?_⟩
    obtain ⟨c, hc, hm⟩ := at_str r0 r1
    exact ⟨line_of (by omega), c, hc, q c l hm hd'⟩
  · refine .inl ⟨_, .inl (SqL.of hp), st, scr, _, rfl, hd, by omega, many_small (by omega) (by omega), fun r l r0 r1 hd' => ?_⟩
    obtain ⟨x, hx, hm⟩ := at_list r0 r1
    exact ⟨_, .inl (SqL.of (by rw [upd_ne hne]; exact hp)), x, hx, q x l hm hd'⟩

/-! ### _law_mixed -/
theorem cutV_take (xs : List V) {k : Int} (h : 0 ≤ k) : cutV xs none (some k) = xs.take k.toNat := by
  unfold cutV
  have e := HT.sIx_nat xs.length xs.length k.toNat
  rw [show ((k.toNat : Nat) : Int) = k by omega] at e
  rw [e, HT.sIx_none, List.drop_zero]
  by_cases hk : k.toNat ≤ xs.length
  · rw [Nat.min_eq_left hk, Nat.sub_zero]
  · rw [Nat.min_eq_right (by omega), Nat.sub_zero, List.take_length, List.take_of_length_le (by omega)]
theorem cutV_drop (xs : List V) {k : Int} (h : 0 ≤ k) : cutV xs (some k) none = xs.drop k.toNat := by
  unfold cutV
  have e := HT.sIx_nat xs.length 0 k.toNat
  rw [show ((k.toNat : Nat) : Int) = k by omega] at e
  rw [e, HT.sIx_none]
  by_cases hk : k.toNat ≤ xs.length
  · rw [Nat.min_eq_left hk, List.take_of_length_le (by rw [List.length_drop]; omega)]
  · rw [Nat.min_eq_right (by omega), List.drop_of_length_le (Nat.le_refl _), List.drop_of_length_le (by omega)]
    exact List.take_nil
def sp__law_mixed (K : PySem.W.Frag) : Sp := fun vs H Q _ => ∃ (st scr p : Addr) (xs : List V), vs = [.ref st, .ref p] ∧ DrAt H st scr ∧ H p = some (.lst xs) ∧ p ≠ st ∧ xs.length ≤ 1000 ∧
  ∀ (H' : Hp) (r : Addr) (ys : List V), Bt st H H' → DrAt H' st scr → H r = none → H' r = some (.lst ys) → ys.Perm xs → Q (.ref r) H'
theorem len__law_mixed {vs : List V} {H : Hp} {Q : VK} {E : XK} (h : sp__law_mixed K vs H Q E) : vs.length = 2 := by
  obtain ⟨_, _, _, _, rfl, _⟩ := h
  rfl
theorem ok__law_mixed {f : Addr} {fd : FuncData} {f__law_draw : Addr} {fd__law_draw : FuncData} (F : Fun K "_law_mixed" "_law_mixed" s__law_mixed f fd) (T : Gs K mg t_LETTERS t_LONGEST_NAME a_RESERVED a_BadName a_BadOrder a_ElseputError a_KeyOrder a_UnknownField a_UnknownKey a_UnknownName a_UnknownShape) (c__law_draw : Cal P w K mg base CX0 1 "_law_draw" f__law_draw fd__law_draw ["_law_state_here", "_law_many"] (sp__law_draw K)) : FnOk P w K mg base CX0 2 f fd ["_law_state_here", "_law_row"] (sp__law_mixed K) := by
  refine F.ok sc__law_mixed (fun vs H Q E h => len__law_mixed h) (fun cdv A outer s H vs Q E hr h => ?_)
  obtain ⟨st, scr, p, xs, rfl, hd, hp, hne, hl, q⟩ := h
  refine ⟨_, (pss_cons (ps_set (i := 2) sc__law_mixed.nd rfl (.inl rfl) (pe_callTy (listK K) (by rfl) T.z_list (by decide +kernel) (pa_cons (v_ 1) pa_nil))) (pss_cons (ps_set (i := 3) sc__law_mixed.nd rfl (.inl rfl) (pe_lst pa_nil)) (pss_cons (ps_for PassesOwn.never rfl (pi_range1 rfl T.z_range (pa_cons (pe_callB (lenK K) (by rfl) T.z_len PySem.boot_len (pa_cons (v_ 1) pa_nil)) pa_nil)) (pg_name (i := 4) sc__law_mixed.nd rfl (.inl rfl)) (pss_cons (ps_set (i := 5) sc__law_mixed.nd rfl (.inl rfl) (pe_call c__law_draw.G (hr.mono (by first | decide | omega)) rfl c__law_draw.m c__law_draw.kp c__law_draw.b .nil pass0 (pa_cons (v_ 0) (pa_cons (pe_callB (lenK K) (by rfl) T.z_len PySem.boot_len (pa_cons (v_ 2) pa_nil)) pa_nil)))) (pss_cons (ps_expr (pe_bm PySem.F.plainAttrs_list PySem.F.slot_list_append PySem.F.type_list_append mt_append (v_ 3) (pa_cons (e_x K (v_ 2) (v_ 5)) pa_nil))) (pss_one (ps_set (i := 2) sc__law_mixed.nd rfl (.inl rfl) (pe_op (addK K) (pe_slice (slK K) (v_ 2) po_none (po_some (v_ 5))) (pe_slice (slK K) (v_ 2) (po_some (pe_op (addK K) (v_ 5) pe_int)) po_none))))))) (pss_one (ps_ret (v_ 3)))))), ?_⟩
  refine ⟨_, _, rfl, .inl (SqL.of hp), fun t nt => ?_⟩
  refine ⟨Nat.zero_le _, fun r nr => ?_⟩
  have tr := new_ne nr
  have hr0 := free_new nr
  have hd0 := (hd.new (same_new (o := .lst xs) nt)).new (same_new (o := .lst []) nr)
  have ts : t ≠ st := hd.ne_new nt
  have rs : r ≠ st := hd.ne_new hr0
  have rc : r ≠ scr := hd.ne_scr hr0
  refine .inl ⟨_, .inl (SqL.of (by rw [upd_ne (ne_of_none hp hr0), upd_ne (ne_of_none hp nt)]; exact hp)), xs.length, rfl, by omega, by omega, ?_⟩
  refine for_range (lo := 0) (n := xs.length) (fun i σ' H' => ∃ (t : Addr) (rest ys : List V) (y z : Option V), σ' = [some (.ref st), some (.ref p), some (.ref t), some (.ref r), y, z] ∧ Bt st H H' ∧ DrAt H' st scr ∧ t ≠ st ∧ t ≠ r ∧ H' t = some (.lst rest) ∧ H' r = some (.lst ys) ∧ rest.length + i = xs.length ∧ ys.length = i ∧ (rest ++ ys).Perm xs) ?_ ?_ ?_
  · exact ⟨t, xs, [], _, _, rfl, .same ((same_new nt).trans (same_new nr)), hd0, ts, tr.symm, by rw [upd_ne tr.symm, upd_same], upd_same, rfl, rfl, by rw [List.append_nil]⟩
  · rintro i σ' H' hi ⟨t, rest, ys, y, z, rfl, bt, hd, ts, tr, ht, hr, l1, l2, m1⟩
    refine .inl ⟨_, .inl (SqL.of ht), st, scr, _, rfl, hd, by omega, many_small (by omega) (by omega), fun a l a0 a1 hd' => ?_⟩
    have ht1 : upd H' st (.lst l) t = some (.lst rest) := by rw [upd_ne ts]; exact ht
    have hr1 : upd H' st (.lst l) r = some (.lst ys) := by rw [upd_ne rs]; exact hr
    obtain ⟨x, hx, hm⟩ := at_list a0 a1
    refine ⟨.inl ⟨rfl, _, SqL.of hr1⟩, _, .inl (SqL.of ht1), x, hx, r, ys, x, rfl, rfl, hr1, line_lt (by omega), ?_⟩
    have hd2 := hd'.at (o := .lst (ys ++ [x])) rs rc
    have ht2 : upd (upd H' st (.lst l)) r (.lst (ys ++ [x])) t = some (.lst rest) := by rw [upd_ne tr]; exact ht1
    refine ⟨a, rfl, .inl ⟨rest, SqL.of ht2, fun u nu => ?_⟩⟩
    rw [cutV_take _ a0]
    have ht3 := same_new (o := .lst (rest.take a.toNat)) nu _ _ ht2
    refine ⟨a + 1, rfl, .inl ⟨rest, SqL.of ht3, fun v nv => ?_⟩⟩
    rw [cutV_drop _ (by omega)]
    have hu := same_new (o := .lst (rest.drop (a + 1).toNat)) nv _ _ (upd_same (H := upd (upd H' st (.lst l)) r (.lst (ys ++ [x]))) (a := u) (o := .lst (rest.take a.toNat)))
    refine .inl ⟨_, _, hu, upd_same, line_of (by rw [List.length_take, List.length_drop]; omega), fun k nk => ?_⟩
    have sm := ((same_new (o := .lst (rest.take a.toNat)) nu).trans (same_new (o := .lst (rest.drop (a + 1).toNat)) nv)).trans (same_new (o := .lst (rest.take a.toNat ++ rest.drop (a + 1).toNat)) nk)
    have hd3 := hd2.new sm
    have kn := free_new (free_new nk)
    refine ⟨k, _, ys ++ [x], _, _, rfl, ?_, hd3, hd2.ne_new kn, (ne_of_none upd_same kn).symm, upd_same, sm _ _ upd_same, ?_, by rw [List.length_append, l2]; rfl, ?_⟩
    · intro b o nb hb
      refine sm _ _ ?_
      have := bt b o nb hb
      rw [upd_ne (ne_of_none hb hr0), upd_ne nb]
      exact this
    · rw [List.length_append, List.length_take, List.length_drop]
      omega
    · have hx' : rest[a.toNat]? = some x := by
        obtain ⟨x', e1, e2⟩ : ∃ x', rest[a.toNat]? = some x' ∧ atI rest a = some x' := by
          have hlt : a.toNat < rest.length := by omega
          refine ⟨_, List.getElem?_eq_getElem hlt, ?_⟩
          have := atI_nat (List.getElem?_eq_getElem hlt)
          rwa [show ((a.toNat : Nat) : Int) = a by omega] at this
        rw [hx] at e2
        cases e2
        exact e1
      have hr' : rest = rest.take a.toNat ++ x :: rest.drop (a + 1).toNat := by
        obtain ⟨h1, h2⟩ := List.getElem?_eq_some_iff.mp hx'
        rw [show (a + 1).toNat = a.toNat + 1 by omega, ← h2, ← List.drop_eq_getElem_cons h1, List.take_append_drop]
      refine List.Perm.trans ?_ m1
      rw [← List.append_assoc]
      have p1 : (rest.take a.toNat ++ rest.drop (a + 1).toNat ++ ys ++ [x]).Perm (rest.take a.toNat ++ (x :: rest.drop (a + 1).toNat) ++ ys) := by
        refine (List.perm_append_comm (l₁ := rest.take a.toNat ++ rest.drop (a + 1).toNat ++ ys) (l₂ := [x])).trans ?_
        rw [List.append_assoc, List.append_assoc]
        exact (List.perm_middle (a := x) (l₁ := rest.take a.toNat) (l₂ := rest.drop (a + 1).toNat ++ ys)).symm
      rw [← hr'] at p1
      exact p1
  · rintro σ' H' ⟨t, rest, ys, y, z, rfl, bt, hd, ts, tr, ht, hr, l1, l2, m1⟩
    refine q H' r ys bt hd hr0 hr ?_
    have : rest = [] := List.eq_nil_of_length_eq_zero (by omega)
    rw [this] at m1
    exact m1
end
section
variable {P : Program} {w : World} {K : PySem.W.Frag} {mg : Str → Option Value} {base : Heap}
variable {t_LETTERS t_LONGEST_NAME : Tok} {a_RESERVED a_BadName a_BadOrder a_ElseputError a_KeyOrder a_UnknownField a_UnknownKey a_UnknownName a_UnknownShape : Addr}
/-! ### _law_same -/
def sp__law_is_int (K : PySem.W.Frag) : Sp := fun vs H Q _ => ∃ i : Int, vs = [.int i] ∧ Q (.bl true) H
theorem len__law_is_int {vs : List V} {H : Hp} {Q : VK} {E : XK} (h : sp__law_is_int K vs H Q E) : vs.length = 1 := by
  obtain ⟨_, rfl, _⟩ := h
  rfl
theorem ok__law_is_int {f : Addr} {fd : FuncData} (F : Fun K "_law_is_int" "_law_is_int" s__law_is_int f fd) (T : Gs K mg t_LETTERS t_LONGEST_NAME a_RESERVED a_BadName a_BadOrder a_ElseputError a_KeyOrder a_UnknownField a_UnknownKey a_UnknownName a_UnknownShape) : FnOk P w K mg base CX0 1 f fd ["_law_thing"] (sp__law_is_int K) := by
  refine F.ok sc__law_is_int (fun vs H Q E h => len__law_is_int h) (fun cdv A outer s H vs Q E hr h => ?_)
  obtain ⟨i, rfl, q⟩ := h
  refine ⟨_, (pss_one (ps_ret (pe_andM (pe_callB (isiK K) (by rfl) T.z_isinstance (by decide +kernel) (pa_cons (v_ 0) (pa_cons (pe_bltn (v := .ty "int") (u := .type "int") (by rfl) T.z_int (by decide +kernel) rfl) pa_nil))) (pe_one (pe_notM (pe_callB (isiK K) (by rfl) T.z_isinstance (by decide +kernel) (pa_cons (v_ 0) (pa_cons (pe_bltn (v := .ty "bool") (u := .type "bool") (by rfl) T.z_bool (by decide +kernel) rfl) pa_nil)))))))), ?_⟩
  refine ⟨_, _, _, _, true, rfl, .ty _, .base (.int i), kit_ty (by decide +kernel), ?_⟩
  exact ⟨_, _, _, _, false, rfl, .ty _, .base (.int i), kit_ty (by decide +kernel), q⟩
def SameV (H : Hp) : Nat → V → V → Prop
  | 0, _, _ => False
  | n + 1, x, y => (x = .non ∧ y = .non) ∨ (∃ b : Bool, x = .bl b ∧ y = .bl b) ∨ (∃ i : Int, x = .int i ∧ y = .int i) ∨ (∃ z : Str, x = .str z ∧ y = .str z) ∨ ∃ (p q : Addr) (xs ys : List V), x = .ref p ∧ y = .ref q ∧ ((H p = some (.lst xs) ∧ H q = some (.lst ys)) ∨ (H p = some (.tup xs) ∧ H q = some (.tup ys))) ∧
      xs.length = ys.length ∧ ys.length ≤ 1000 ∧ ∀ (i : Nat) (a b : V), xs[i]? = some a → ys[i]? = some b → SameV H n a b
def spSame (n : Nat) : Sp := fun vs H Q _ => ∃ x y : V, vs = [x, y] ∧ SameV H n x y ∧ Q (.bl true) H
theorem len_same {n : Nat} {vs : List V} {H : Hp} {Q : VK} {E : XK} (h : spSame n vs H Q E) : vs.length = 2 := by
  obtain ⟨_, _, rfl, _⟩ := h
  rfl
theorem same_step {n k : Nat} {f : Addr} {fd : FuncData} {f__law_is_int : Addr} {fd__law_is_int : FuncData} (F : Fun K "_law_same" "_law_same" s__law_same f fd) (T : Gs K mg t_LETTERS t_LONGEST_NAME a_RESERVED a_BadName a_BadOrder a_ElseputError a_KeyOrder a_UnknownField a_UnknownKey a_UnknownName a_UnknownShape)
    (c__law_is_int : Cal P w K mg base CX0 1 "_law_is_int" f__law_is_int fd__law_is_int ["_law_thing"] (sp__law_is_int K)) (c__law_same : Cal P w K mg base CX0 k "_law_same" f fd ["_law_actual", "_law_due_here"] (spSame n)) (hk : 1 ≤ k) : FnOk P w K mg base CX0 (k + 1) f fd ["_law_actual", "_law_due_here"] (spSame (n + 1)) := by
  refine F.ok sc__law_same (fun vs H Q E h => len_same h) (fun cdv A outer s H vs Q E hr h => ?_)
  obtain ⟨x, y, rfl, h, q⟩ := h
  refine ⟨_, (pss_cons (ps_if (pt_c op_isM (v_ 1) pe_non) (pss_one (ps_ret (pe_c op_isM (v_ 0) pe_non))) pss_nil) (pss_cons (ps_if (pt_c op_isM (v_ 1) pe_bl) (pss_one (ps_ret (pe_c op_isM (v_ 0) pe_bl))) pss_nil) (pss_cons (ps_if (pt_c op_isM (v_ 1) pe_bl) (pss_one (ps_ret (pe_c op_isM (v_ 0) pe_bl))) pss_nil) (pss_cons (ps_if (pt_t K (pe_callB (isiK K) (by rfl) T.z_isinstance (by decide +kernel) (pa_cons (v_ 1) (pa_cons (pe_bltn (v := .ty "int") (u := .type "int") (by rfl) T.z_int (by decide +kernel) rfl) pa_nil)))) (pss_one (ps_ret (pe_andM (pe_call c__law_is_int.G (hr.mono (by first | decide | omega)) rfl c__law_is_int.m c__law_is_int.kp c__law_is_int.b .nil pass0 (pa_cons (v_ 0) pa_nil)) (pe_one (pe_c (eqK K hr.units) (v_ 0) (v_ 1)))))) pss_nil) (pss_cons (ps_if (pt_t K (pe_callB (isiK K) (by rfl) T.z_isinstance (by decide +kernel) (pa_cons (v_ 1) (pa_cons (pe_bltn (v := .ty "str") (u := .type "str") (by rfl) T.z_str (by decide +kernel) rfl) pa_nil)))) (pss_one (ps_ret (pe_andM (pe_callB (isiK K) (by rfl) T.z_isinstance (by decide +kernel) (pa_cons (v_ 0) (pa_cons (pe_bltn (v := .ty "str") (u := .type "str") (by rfl) T.z_str (by decide +kernel) rfl) pa_nil))) (pe_one (pe_c (eqK K hr.units) (v_ 0) (v_ 1)))))) pss_nil) (pss_cons (ps_if (pt_t K (pe_callB (isiK K) (by rfl) T.z_isinstance (by decide +kernel) (pa_cons (v_ 1) (pa_cons (pe_bltn (v := .ty "dict") (u := .type "dict") (by rfl) T.z_dict (by decide +kernel) rfl) pa_nil)))) (pss_cons (ps_if (PW.pt (pw_or (pt_not (pt_t K (pe_callB (isiK K) (by rfl) T.z_isinstance (by decide +kernel) (pa_cons (v_ 0) (pa_cons (pe_bltn (v := .ty "dict") (u := .type "dict") (by rfl) T.z_dict (by decide +kernel) rfl) pa_nil))))) (pw_or1 (pt_c (neK K hr.units) (pe_callB (lenK K) (by rfl) T.z_len PySem.boot_len (pa_cons (v_ 0) pa_nil)) (pe_callB (lenK K) (by rfl) T.z_len PySem.boot_len (pa_cons (v_ 1) pa_nil)))))) (pss_one (ps_ret pe_bl)) pss_nil) (pss_cons (ps_lock (ps_for PassesOwn.never rfl (pi_keys (v_ 1)) (pg_name (i := 3) sc__law_same.nd rfl (.inl rfl)) (pss_one (ps_if (PW.pt (pw_or (pt_cmp (pc_dnotin (hu_of hr) (v_ 3) (v_ 0))) (pw_or1 (pt_not (pt_t K (pe_call c__law_same.G (hr.mono (by first | decide | omega)) rfl c__law_same.m c__law_same.kp c__law_same.b .nil pass0 (pa_cons (pe_dget (hu_of hr) (v_ 0) (v_ 3) (fun _ _ => rfl)) (pa_cons (pe_dget (hu_of hr) (v_ 1) (v_ 3) (fun _ _ => rfl)) pa_nil)))))))) (pss_one (ps_ret pe_bl)) pss_nil)))) (pss_one (ps_ret pe_bl)))) pss_nil) (pss_cons (ps_if (PW.pt (pw_and (pt_t K (pe_callB (isiK K) (by rfl) T.z_isinstance (by decide +kernel) (pa_cons (v_ 1) (pa_cons (pe_bltn (v := .ty "list") (u := .type "list") (by rfl) T.z_list (by decide +kernel) rfl) pa_nil)))) (pw_and1 (pt_not (pt_t K (pe_callB (isiK K) (by rfl) T.z_isinstance (by decide +kernel) (pa_cons (v_ 0) (pa_cons (pe_bltn (v := .ty "list") (u := .type "list") (by rfl) T.z_list (by decide +kernel) rfl) pa_nil)))))))) (pss_one (ps_ret pe_bl)) pss_nil) (pss_cons (ps_if (PW.pt (pw_and (pt_t K (pe_callB (isiK K) (by rfl) T.z_isinstance (by decide +kernel) (pa_cons (v_ 1) (pa_cons (pe_bltn (v := .ty "tuple") (u := .type "tuple") (by rfl) T.z_tuple (by decide +kernel) rfl) pa_nil)))) (pw_and1 (pt_not (pt_t K (pe_callB (isiK K) (by rfl) T.z_isinstance (by decide +kernel) (pa_cons (v_ 0) (pa_cons (pe_bltn (v := .ty "tuple") (u := .type "tuple") (by rfl) T.z_tuple (by decide +kernel) rfl) pa_nil)))))))) (pss_one (ps_ret pe_bl)) pss_nil) (pss_cons (ps_if (pt_c (neK K hr.units) (pe_callB (lenK K) (by rfl) T.z_len PySem.boot_len (pa_cons (v_ 0) pa_nil)) (pe_callB (lenK K) (by rfl) T.z_len PySem.boot_len (pa_cons (v_ 1) pa_nil))) (pss_one (ps_ret pe_bl)) pss_nil) (pss_cons (ps_for PassesOwn.never rfl (pi_range1 rfl T.z_range (pa_cons (pe_callB (lenK K) (by rfl) T.z_len PySem.boot_len (pa_cons (v_ 1) pa_nil)) pa_nil)) (pg_name (i := 2) sc__law_same.nd rfl (.inl rfl)) (pss_one (ps_if (pt_not (pt_t K (pe_call c__law_same.G (hr.mono (by first | decide | omega)) rfl c__law_same.m c__law_same.kp c__law_same.b .nil pass0 (pa_cons (e_x K (v_ 0) (v_ 2)) (pa_cons (e_x K (v_ 1) (v_ 2)) pa_nil))))) (pss_one (ps_ret pe_bl)) pss_nil))) (pss_one (ps_ret pe_bl)))))))))))), ?_⟩
  rcases h with ⟨rfl, rfl⟩ | ⟨b, rfl, rfl⟩ | ⟨i, rfl, rfl⟩ | ⟨z, rfl, rfl⟩ | ⟨a, b, xs, ys, rfl, rfl, hh, hl, h1, hs⟩
  · exact q
  · cases b <;> exact q
  · refine ⟨_, _, _, _, true, rfl, .ty _, .base (.int i), kit_ty (by decide +kernel), ?_⟩
    refine ⟨i, rfl, ?_⟩
    have e : decide (i = i) = true := decide_eq_true rfl
    rw [← e] at q
    exact q
  · refine ⟨_, _, _, _, false, rfl, .ty _, .base (.str z), kit_ty (by decide +kernel), ?_⟩
    refine ⟨_, _, _, _, true, rfl, .ty _, .base (.str z), kit_ty (by decide +kernel), ?_⟩
    refine ⟨_, _, _, _, true, rfl, .ty _, .base (.str z), kit_ty (by decide +kernel), ?_⟩
    have e : decide (z = z) = true := decide_eq_true rfl
    rw [← e] at q
    exact q
  · rcases hh with ⟨ha, hb⟩ | ⟨ha, hb⟩
    · have tb : TyX K H (.ref b) (.type "list") := .base (.lst hb)
      refine ⟨_, _, _, _, false, rfl, .ty _, tb, kit_ty (by decide +kernel), ?_⟩
      refine ⟨_, _, _, _, false, rfl, .ty _, tb, kit_ty (by decide +kernel), ?_⟩
      refine ⟨_, _, _, _, false, rfl, .ty _, tb, kit_ty (by decide +kernel), ?_⟩
      refine ⟨_, _, _, _, true, rfl, .ty _, tb, kit_ty (by decide +kernel), ?_⟩
      refine ⟨_, _, _, _, true, rfl, .ty _, .base (.lst ha), kit_ty (by decide +kernel), ?_⟩
      refine ⟨_, _, _, _, false, rfl, .ty _, tb, kit_ty (by decide +kernel), ?_⟩
      refine .inl ⟨_, .inl (SqL.of ha), .inl ⟨_, .inl (SqL.of hb), ?_⟩⟩
      refine ite2 (fun e => ?_) (fun _ => ?_)
      · exact absurd e (by rw [hl]; simp)
      refine .inl ⟨_, .inl (SqL.of hb), _, rfl, by omega, by omega, ?_⟩
      refine for_range (lo := 0) (n := ys.length) (fun i σ' H' => H' = H ∧ ∃ y, σ' = [some (.ref a), some (.ref b), y, none]) ⟨rfl, _, rfl⟩ ?_ ?_
      · rintro i σ' H' hi ⟨rfl, y, rfl⟩
        have ex := List.getElem?_eq_getElem (l := xs) (i := i) (by omega)
        have ey := List.getElem?_eq_getElem (l := ys) hi
        refine ⟨_, .inl (SqL.of ha), xs[i], ?_, _, .inl (SqL.of hb), ys[i], ?_, _, _, rfl, hs i _ _ ex ey, ?_⟩
        · rw [show (0 : Int) + i = ((i : Nat) : Int) by omega]
          exact atI_nat ex
        · rw [show (0 : Int) + i = ((i : Nat) : Int) by omega]
          exact atI_nat ey
        exact ⟨rfl, _, rfl⟩
      · rintro σ' H' ⟨rfl, y, rfl⟩
        exact q
    · have tb : TyX K H (.ref b) (.type "tuple") := .base (.tup hb)
      refine ⟨_, _, _, _, false, rfl, .ty _, tb, kit_ty (by decide +kernel), ?_⟩
      refine ⟨_, _, _, _, false, rfl, .ty _, tb, kit_ty (by decide +kernel), ?_⟩
      refine ⟨_, _, _, _, false, rfl, .ty _, tb, kit_ty (by decide +kernel), ?_⟩
      refine ⟨_, _, _, _, false, rfl, .ty _, tb, kit_ty (by decide +kernel), ?_⟩
      refine ⟨_, _, _, _, true, rfl, .ty _, tb, kit_ty (by decide +kernel), ?_⟩
      refine ⟨_, _, _, _, true, rfl, .ty _, .base (.tup ha), kit_ty (by decide +kernel), ?_⟩
      refine .inl ⟨_, .inr (SqT.of ha), .inl ⟨_, .inr (SqT.of hb), ?_⟩⟩
      refine ite2 (fun e => ?_) (fun _ => ?_)
      · exact absurd e (by rw [hl]; simp)
      refine .inl ⟨_, .inr (SqT.of hb), _, rfl, by omega, by omega, ?_⟩
      refine for_range (lo := 0) (n := ys.length) (fun i σ' H' => H' = H ∧ ∃ y, σ' = [some (.ref a), some (.ref b), y, none]) ⟨rfl, _, rfl⟩ ?_ ?_
      · rintro i σ' H' hi ⟨rfl, y, rfl⟩
        have ex := List.getElem?_eq_getElem (l := xs) (i := i) (by omega)
        have ey := List.getElem?_eq_getElem (l := ys) hi
        refine ⟨_, .inr (SqT.of ha), xs[i], ?_, _, .inr (SqT.of hb), ys[i], ?_, _, _, rfl, hs i _ _ ex ey, ?_⟩
        · rw [show (0 : Int) + i = ((i : Nat) : Int) by omega]
          exact atI_nat ex
        · rw [show (0 : Int) + i = ((i : Nat) : Int) by omega]
          exact atI_nat ey
        exact ⟨rfl, _, rfl⟩
      · rintro σ' H' ⟨rfl, y, rfl⟩
        exact q
theorem same_all {f : Addr} {fd : FuncData} {f__law_is_int : Addr} {fd__law_is_int : FuncData} (F : Fun K "_law_same" "_law_same" s__law_same f fd) (T : Gs K mg t_LETTERS t_LONGEST_NAME a_RESERVED a_BadName a_BadOrder a_ElseputError a_KeyOrder a_UnknownField a_UnknownKey a_UnknownName a_UnknownShape)
    (c__law_is_int : Cal P w K mg base CX0 1 "_law_is_int" f__law_is_int fd__law_is_int ["_law_thing"] (sp__law_is_int K)) (b : Binds K fd ["_law_actual", "_law_due_here"] []) (kp : PySem.W.keepIn K (.ref f) = true) (m : mg "_law_same" = some (.ref f)) :
    ∀ n : Nat, FnOk P w K mg base CX0 (n + 2) f fd ["_law_actual", "_law_due_here"] (spSame n)
  | 0 => ⟨fun _ _ _ _ h => len_same h, by
    intro A outer s H args us vs Q E _ _ _ _ h
    obtain ⟨_, _, _, h, _⟩ := h
    exact False.elim h⟩
  | n + 1 => same_step F T c__law_is_int ⟨same_all F T c__law_is_int b kp m n, b, kp, m⟩ (by omega)
def sp__law_same (K : PySem.W.Frag) : Sp := spSame 4
theorem ok__law_same {f : Addr} {fd : FuncData} {f__law_is_int : Addr} {fd__law_is_int : FuncData} (F : Fun K "_law_same" "_law_same" s__law_same f fd) (T : Gs K mg t_LETTERS t_LONGEST_NAME a_RESERVED a_BadName a_BadOrder a_ElseputError a_KeyOrder a_UnknownField a_UnknownKey a_UnknownName a_UnknownShape)
    (c__law_is_int : Cal P w K mg base CX0 1 "_law_is_int" f__law_is_int fd__law_is_int ["_law_thing"] (sp__law_is_int K)) (b : Binds K fd ["_law_actual", "_law_due_here"] []) (kp : PySem.W.keepIn K (.ref f) = true) (m : mg "_law_same" = some (.ref f)) :
    FnOk P w K mg base CX0 6 f fd ["_law_actual", "_law_due_here"] (sp__law_same K) := same_all F T c__law_is_int b kp m 4

end
section
variable {P : Program} {w : World} {K : PySem.W.Frag} {mg : Str → Option Value} {base : Heap}
variable {t_LETTERS t_LONGEST_NAME : Tok} {a_RESERVED a_BadName a_BadOrder a_ElseputError a_KeyOrder a_UnknownField a_UnknownKey a_UnknownName a_UnknownShape : Addr}
/-! ### names -/
/-- small letters, of which the one at p is c -/
def Lt (z : Str) (p c : Nat) : Prop := (∀ d ∈ z.cps.toList, d ∈ letters.cps.toList) ∧ z.cps.toList[p]? = some c ∧ z.length ≤ 12
theorem Lt.name {z : Str} {p c : Nat} (h : Lt z p c) (hr : inV (.str z) resv = false) : isName z = true := by
  unfold isName
  have h0 : ¬ ((z.length : Int) < 1) := by
    have := (List.getElem?_eq_some_iff.mp h.2.1).1
    rw [len_cps] at this
    omega
  have h1 : ¬ ((12 : Int) < z.length) := by have := h.2.2; omega
  rw [decide_eq_false h0, decide_eq_false h1, hr]
  show (z.cps.toList.all fun c => decide (c ∈ letters.cps.toList)) = true
  exact List.all_eq_true.mpr fun d hd => decide_eq_true (h.1 d hd)
theorem resv_strs : resv = (["always", "never", "and", "or", "not", "when", "add", "set", "change", "tell", "refuse", "take", "look", "free", "lock", "keep", "keys", "fields"] : List Str).map V.str := rfl
theorem resv_z {z : Str} (h : inV (.str z) resv = true) : inV (.str (z ++ "z")) resv = false ∧ z.length ≤ 7 := by
  rw [resv_strs, inV_str, decide_eq_true_iff] at h
  have all : (["always", "never", "and", "or", "not", "when", "add", "set", "change", "tell", "refuse", "take", "look", "free", "lock", "keep", "keys", "fields"] : List Str).all (fun z => !inV (.str (z ++ "z")) resv && decide (z.length ≤ 7)) = true := by decide +kernel
  have := List.all_eq_true.mp all z h
  rw [Bool.and_eq_true, Bool.not_eq_true', decide_eq_true_iff] at this
  exact this
end
section
variable {P : Program} {w : World} {K : PySem.W.Frag} {mg : Str → Option Value} {base : Heap}
variable {t_LETTERS t_LONGEST_NAME : Tok} {a_RESERVED a_BadName a_BadOrder a_ElseputError a_KeyOrder a_UnknownField a_UnknownKey a_UnknownName a_UnknownShape : Addr}
theorem cutS_take (z : Str) {k : Nat} : (cutS z none (some (k : Int))).cps.toList = z.cps.toList.take k := by
  unfold cutS
  rw [List.toList_toArray, HT.sIx_nat, HT.sIx_none, List.drop_zero, Nat.sub_zero, List.take_eq_take_iff, len_cps]
  omega
theorem cutS_drop (z : Str) {k : Nat} : (cutS z (some (k : Int)) none).cps.toList = z.cps.toList.drop k := by
  unfold cutS
  rw [List.toList_toArray, HT.sIx_nat, HT.sIx_none]
  by_cases h : k ≤ z.length
  · rw [Nat.min_eq_left h, List.take_of_length_le (by rw [List.length_drop, len_cps]; omega)]
  · rw [Nat.min_eq_right (by omega), List.drop_of_length_le (by rw [len_cps]; omega), List.drop_of_length_le (by rw [len_cps]; omega), List.take_nil]
theorem letter_at {i : Int} (h0 : 0 ≤ i) (h1 : i < 26) : atI letters.cps.toList i = some (97 + i.toNat) := by
  have all : ∀ j : Fin 26, letters.cps.toList[j.val]? = some (97 + j.val) := by decide +kernel
  have := all ⟨i.toNat, by omega⟩
  have hq := atI_nat this
  rwa [show ((i.toNat : Nat) : Int) = i by omega] at hq
theorem letter_mem {i : Nat} (h1 : i < 26) : (97 + i) ∈ letters.cps.toList := by
  have all : ∀ j : Fin 26, (97 + j.val) ∈ letters.cps.toList := by decide +kernel
  exact all ⟨i, h1⟩
theorem one_len (c : Nat) : (⟨#[c]⟩ : Str).length = 1 := rfl
theorem one_cps (c : Nat) : (⟨#[c]⟩ : Str).cps.toList = [c] := rfl
theorem Lt.z {z : Str} {p c : Nat} (h : Lt z p c) (hl : z.length ≤ 7) : Lt (z ++ "z") p c := by
  refine ⟨fun d hd => ?_, ?_, ?_⟩
  · rw [cps_add] at hd
    rcases List.mem_append.mp hd with e | e
    · exact h.1 d e
    · have : d = 122 := by simpa using (show d ∈ [122] from e)
      rw [this]
      decide +kernel
  · rw [cps_add, List.getElem?_append_left (List.getElem?_eq_some_iff.mp h.2.1).1]
    exact h.2.1
  · rw [len_add]
    show z.length + 1 ≤ 12
    omega
def sp__law_names (K : PySem.W.Frag) : Sp := fun vs H Q _ => ∃ (st scr : Addr) (n : Nat), vs = [.ref st, .int n] ∧ DrAt H st scr ∧ n ≤ 26 ∧
  ∀ (H' : Hp) (p : Addr) (zs : List Str), Bt st H H' → DrAt H' st scr → H p = none → H' p = some (.lst (zs.map V.str)) → zs.length = n → (∀ z ∈ zs, isName z = true ∧ z.length ≤ 12) → zs.Nodup → Q (.ref p) H'
theorem len__law_names {vs : List V} {H : Hp} {Q : VK} {E : XK} (h : sp__law_names K vs H Q E) : vs.length = 2 := by
  obtain ⟨_, _, _, rfl, _⟩ := h
  rfl
theorem ok__law_names {f : Addr} {fd : FuncData} {f__law_draw : Addr} {fd__law_draw : FuncData} (F : Fun K "_law_names" "_law_names" s__law_names f fd) (T : Gs K mg t_LETTERS t_LONGEST_NAME a_RESERVED a_BadName a_BadOrder a_ElseputError a_KeyOrder a_UnknownField a_UnknownKey a_UnknownName a_UnknownShape) (c__law_draw : Cal P w K mg base CX0 1 "_law_draw" f__law_draw fd__law_draw ["_law_state_here", "_law_many"] (sp__law_draw K)) : FnOk P w K mg base CX0 2 f fd ["_law_state_here", "_law_many"] (sp__law_names K) := by
  refine F.ok sc__law_names (fun vs H Q E h => len__law_names h) (fun cdv A outer s H vs Q E hr h => ?_)
  obtain ⟨st, scr, n, rfl, hd, hn, q⟩ := h
  refine ⟨_, (pss_cons (ps_set (i := 2) sc__law_names.nd rfl (.inl rfl) pe_str) (pss_cons (ps_set (i := 3) sc__law_names.nd rfl (.inl rfl) (pe_call c__law_draw.G (hr.mono (by first | decide | omega)) rfl c__law_draw.m c__law_draw.kp c__law_draw.b .nil pass0 (pa_cons (v_ 0) (pa_cons pe_int pa_nil)))) (pss_cons (ps_set (i := 4) sc__law_names.nd rfl (.inl rfl) (pe_call c__law_draw.G (hr.mono (by first | decide | omega)) rfl c__law_draw.m c__law_draw.kp c__law_draw.b .nil pass0 (pa_cons (v_ 0) (pa_cons pe_int pa_nil)))) (pss_cons (ps_set (i := 5) sc__law_names.nd rfl (.inl rfl) (pe_call c__law_draw.G (hr.mono (by first | decide | omega)) rfl c__law_draw.m c__law_draw.kp c__law_draw.b .nil pass0 (pa_cons (v_ 0) (pa_cons pe_int pa_nil)))) (pss_cons (ps_set (i := 6) sc__law_names.nd rfl (.inl rfl) (pe_call c__law_draw.G (hr.mono (by first | decide | omega)) rfl c__law_draw.m c__law_draw.kp c__law_draw.b .nil pass0 (pa_cons (v_ 0) (pa_cons pe_int pa_nil)))) (pss_cons (ps_set (i := 7) sc__law_names.nd rfl (.inl rfl) pe_str) (pss_cons (ps_for PassesOwn.never rfl (pi_range1 rfl T.z_range (pa_cons pe_int pa_nil)) (pg_name (i := 8) sc__law_names.nd rfl (.inl rfl)) (pss_cons (ps_set (i := 7) sc__law_names.nd rfl (.inl rfl) (pe_op (addK K) (v_ 7) (e_x K (v_ 2) (pe_op op_modM (pe_callTy call_intM (by rfl) T.z_int (by decide +kernel) (pa_cons (v_ 5) pa_nil)) pe_int)))) (pss_one (ps_set (i := 5) sc__law_names.nd rfl (.inl rfl) (pe_op op_divM (pe_callTy call_intM (by rfl) T.z_int (by decide +kernel) (pa_cons (v_ 5) pa_nil)) pe_int))))) (pss_cons (ps_set (i := 9) sc__law_names.nd rfl (.inl rfl) (pe_lst (pa_cons pe_str (pa_cons pe_str (pa_cons pe_str (pa_cons pe_str (pa_cons pe_str (pa_cons pe_str (pa_cons pe_str (pa_cons pe_str (pa_cons pe_str (pa_cons pe_str (pa_cons pe_str (pa_cons pe_str pa_nil)))))))))))))) (pss_cons (ps_set (i := 9) sc__law_names.nd rfl (.inl rfl) (pe_op (addK K) (v_ 9) (pe_lst (pa_cons pe_str (pa_cons pe_str (pa_cons pe_str (pa_cons pe_str (pa_cons pe_str (pa_cons pe_str pa_nil))))))))) (pss_cons (ps_set (i := 10) sc__law_names.nd rfl (.inl rfl) (pe_lst pa_nil)) (pss_cons (ps_for PassesOwn.never rfl (pi_range1 rfl T.z_range (pa_cons (v_ 1) pa_nil)) (pg_name (i := 8) sc__law_names.nd rfl (.inl rfl)) (pss_cons (ps_set (i := 11) sc__law_names.nd rfl (.inl rfl) (e_x K (v_ 2) (pe_op op_modM (pe_callTy call_intM (by rfl) T.z_int (by decide +kernel) (pa_cons (pe_op (addK K) (v_ 4) (pe_op op_mulSM pe_int (v_ 8))) pa_nil)) pe_int))) (Evl.pss_cut (ps_if (pt_c (eqK K hr.units) (v_ 3) pe_int) (pss_one (ps_set (i := 11) sc__law_names.nd rfl (.inl rfl) (pe_op (addK K) (pe_op (addK K) (pe_slice (slK K) (v_ 7) po_none (po_some (v_ 6))) (v_ 11)) (pe_slice (slK K) (v_ 7) (po_some (v_ 6)) po_none)))) pss_nil) (Evl.pss_cut (ps_if (pt_c (eqK K hr.units) (v_ 3) pe_int) (pss_one (ps_set (i := 11) sc__law_names.nd rfl (.inl rfl) (pe_op (addK K) (v_ 11) (pe_slice (slK K) (v_ 7) po_none (po_some (pe_op op_modM (pe_callTy call_intM (by rfl) T.z_int (by decide +kernel) (pa_cons (pe_op (addK K) (pe_op op_mulSM pe_int (v_ 8)) (v_ 6)) pa_nil)) pe_int)))))) pss_nil) (Evl.pss_cut (ps_if (pt_c (eqK K hr.units) (v_ 3) pe_int) (pss_one (ps_set (i := 11) sc__law_names.nd rfl (.inl rfl) (pe_op (addK K) (pe_op (addK K) (pe_slice (slK K) (v_ 7) po_none (po_some pe_int)) (v_ 11)) (v_ 7)))) pss_nil) (Evl.pss_cut (ps_if (pt_c (inK K) (v_ 11) (v_ 9)) (pss_one (ps_set (i := 11) sc__law_names.nd rfl (.inl rfl) (pe_op (addK K) (v_ 11) pe_str))) pss_nil) (pss_one (ps_expr (pe_bm PySem.F.plainAttrs_list PySem.F.slot_list_append PySem.F.type_list_append mt_append (v_ 10) (pa_cons (v_ 11) pa_nil)))))))))) (pss_one (ps_ret (v_ 10)))))))))))))), ?_⟩
  refine ⟨st, scr, _, rfl, hd, by decide, many_small (by decide) (by decide), fun sty l1 s0 s1 hd1 => ?_⟩
  have b1 : Bt st H (upd H st (.lst l1)) := Bt.st
  generalize upd H st (.lst l1) = H1 at hd1 b1 ⊢
  refine ⟨st, scr, _, rfl, hd1, by decide, many_small (by decide) (by decide), fun sh l2 h0 h1 hd2 => ?_⟩
  have b2 := b1.trans (Bt.st (st := st) (o := .lst l2))
  generalize upd H1 st (.lst l2) = H2 at hd2 b2 ⊢
  refine ⟨st, scr, _, rfl, hd2, by decide, many_small (by decide) (by decide), fun cd l3 c0 c1 hd3 => ?_⟩
  have b3 := b2.trans (Bt.st (st := st) (o := .lst l3))
  generalize upd H2 st (.lst l3) = H3 at hd3 b3 ⊢
  refine ⟨st, scr, _, rfl, hd3, by decide, many_small (by decide) (by decide), fun spt l4 p0 p1 hd4 => ?_⟩
  have b4 := b3.trans (Bt.st (st := st) (o := .lst l4))
  generalize upd H3 st (.lst l4) = H4 at hd4 b4 ⊢
  refine ⟨6, rfl, by decide, by decide, ?_⟩
  refine for_range (lo := 0) (n := 6) (fun i σ' H' => ∃ (z : Str) (code : Int) (y : Option V), σ' = [some (.ref st), some (.int n), some (.str letters), some (.int sty), some (.int sh), some (.int code), some (.int spt), some (.str z), y, none, none, none] ∧ H' = H4 ∧ z.length = i ∧ ∀ d ∈ z.cps.toList, d ∈ letters.cps.toList) ?_ ?_ ?_
  · exact ⟨_, _, _, rfl, rfl, rfl, fun _ h => nomatch h⟩
  · rintro i σ' H' hi ⟨z, code, y, rfl, rfl, hz, ha⟩
    refine ⟨by decide, ?_⟩
    have r0 := Int.emod_nonneg code (by decide : (26 : Int) ≠ 0)
    have r1 := Int.emod_lt_of_pos code (by decide : (0 : Int) < 26)
    refine ⟨line_of (by decide +kernel), _, letter_at r0 r1, line_of (by rw [one_len]; omega), ?_⟩
    refine ⟨.inl ⟨by decide, by decide⟩, ?_⟩
    refine ⟨_, _, _, rfl, rfl, by rw [len_add, one_len, hz], fun d hd => ?_⟩
    rw [cps_add, one_cps] at hd
    rcases List.mem_append.mp hd with h | h
    · exact ha d h
    · rw [List.mem_singleton.mp h]
      exact letter_mem (by omega)
  rintro σ' H' ⟨bs, code, y, rfl, rfl, hz, ha⟩
  have hbl : bs.cps.toList.length = 6 := by rw [len_cps]; exact hz
  refine ⟨(by show 12 ≤ sizeLine; decide), fun o no => ?_⟩
  refine ⟨(by show 6 ≤ sizeLine; decide), fun p np => ?_⟩
  have hpo := new_ne np
  refine .inl ⟨_, _, (by rw [upd_ne hpo.symm, upd_same]), upd_same, (by show 18 ≤ sizeLine; decide), fun rv nrv => ?_⟩
  have sm := ((same_new (o := .lst [.str "always", .str "never", .str "and", .str "or", .str "not", .str "when", .str "add", .str "set", .str "change", .str "tell", .str "refuse", .str "take"]) no).trans (same_new (o := .lst [.str "look", .str "free", .str "lock", .str "keep", .str "keys", .str "fields"]) np)).trans (same_new (o := .lst resv) nrv)
  generalize hH5 : upd _ rv _ = H5
  have hrv : H5 rv = some (.lst resv) := by rw [← hH5]; exact upd_same
  have hd5 : DrAt H5 st scr := by rw [← hH5]; exact hd4.new sm
  have b5 : Bt st H H5 := by rw [← hH5]; exact b4.trans (Bt.same (st := st) sm)
  clear hH5
  refine ⟨Nat.zero_le _, fun L nL => ?_⟩
  generalize hH6 : upd _ L _ = H6
  have hrv2 : H6 rv = some (.lst resv) := by rw [← hH6]; exact same_new nL _ _ hrv
  have hd6 : DrAt H6 st scr := by rw [← hH6]; exact hd5.new (same_new nL)
  have b6 : Bt st H H6 := by rw [← hH6]; exact b5.trans (Bt.same (st := st) (same_new nL))
  have L0 : H L = none := b5.free (hd5.ne_new nL) nL
  have eL : H6 L = some (.lst []) := by rw [← hH6]; exact upd_same
  have Ls : L ≠ st := hd5.ne_new nL
  have Lc : L ≠ scr := hd5.ne_scr nL
  have Lrv : rv ≠ L := ne_of_none hrv nL
  clear hH6
  refine ⟨n, rfl, by omega, by omega, ?_⟩
  obtain ⟨ps, hps⟩ : ∃ ps : Nat, ps = if sty = 1 then spt.toNat else if sty = 3 then 5 else 0 := ⟨_, rfl⟩
  refine for_range (lo := 0) (n := n) (fun i σ' H' => ∃ (y z : Option V) (zs : List Str), σ' = [some (.ref st), some (.int n), some (.str letters), some (.int sty), some (.int sh), some (.int code), some (.int spt), some (.str bs), y, some (.ref rv), some (.ref L), z] ∧ H' = upd H6 L (.lst (zs.map V.str)) ∧ zs.length = i ∧
    ∀ (j : Nat) (z : Str), zs[j]? = some z → Lt z ps (97 + ((sh + 7 * (j : Int)) % 26).toNat) ∧ inV (.str z) resv = false) ?_ ?_ ?_
  · exact ⟨_, _, [], rfl, (upd_id eL).symm, rfl, fun j z h => nomatch h⟩
  · rintro i σ' H' hi ⟨y, z, zs, rfl, rfl, hzl, hzs⟩
    have r0 := Int.emod_nonneg (sh + 7 * (0 + (i : Int))) (by decide : (26 : Int) ≠ 0)
    have r1 := Int.emod_lt_of_pos (sh + 7 * (0 + (i : Int))) (by decide : (0 : Int) < 26)
    refine ⟨.inl (.inl ⟨by decide, by decide⟩), by decide, ?_⟩
    refine ⟨line_of (by decide +kernel), _, letter_at r0 r1, ?_⟩
    have hcm := letter_mem (i := ((sh + 7 * (0 + (i : Int))) % 26).toNat) (by omega)
    rw [Int.zero_add] at hcm r0 r1 ⊢
    generalize hcc : 97 + ((sh + 7 * (i : Int)) % 26).toNat = ch at hcm ⊢
    have hrv3 : (upd H6 L (.lst (zs.map V.str))) rv = some (.lst resv) := by rw [upd_ne Lrv]; exact hrv2
    refine ⟨fun σ' H' => ∃ w : Str, σ' = [some (.ref st), some (.int n), some (.str letters), some (.int sty), some (.int sh), some (.int code), some (.int spt), some (.str bs), some (.int i), some (.ref rv), some (.ref L), some (.str w)] ∧ H' = upd H6 L (.lst (zs.map V.str)) ∧ (sty = 1 → Lt w ps ch) ∧ (sty ≠ 1 → w = ⟨#[ch]⟩), ?_, ?_⟩
    · refine ite2 (fun e => ?_) (fun e => ?_)
      · have e : sty = 1 := of_decide_eq_true e
        have l1 := cutS_length bs none (some spt)
        have l2 := cutS_length bs (some spt) none
        have e1 := cutS_take bs (k := spt.toNat)
        have e2 := cutS_drop bs (k := spt.toNat)
        rw [show ((spt.toNat : Nat) : Int) = spt by omega] at e1 e2
        refine ⟨_, rfl, line_of (by omega), line_of (by rw [one_len]; omega), _, rfl, line_of (by omega), line_of (by rw [len_add, one_len]; omega), ?_⟩
        refine ⟨_, rfl, rfl, fun _ => ⟨fun d hd => ?_, ?_, ?_⟩, fun h => absurd e h⟩
        · rw [cps_add, cps_add, e1, e2, one_cps] at hd
          rcases List.mem_append.mp hd with h | h
          · rcases List.mem_append.mp h with h | h
            · exact ha d (List.mem_of_mem_take h)
            · rw [List.mem_singleton.mp h]; exact hcm
          · exact ha d (List.mem_of_mem_drop h)
        · have hps1 : ps = spt.toNat := by rw [hps, if_pos e]
          rw [cps_add, cps_add, e1, e2, one_cps, hps1, List.append_assoc, List.getElem?_append_right (by rw [List.length_take]; omega), List.length_take, hbl, Nat.min_eq_left (by omega), Nat.sub_self]
          rfl
        · rw [len_add, len_add, ← len_cps (cutS bs none (some spt)), ← len_cps (cutS bs (some spt) none), e1, e2, one_len, List.length_take, List.length_drop]
          omega
      · have e : ¬ sty = 1 := of_decide_eq_false (Bool.eq_false_iff.mpr e)
        exact ⟨_, rfl, rfl, fun h => absurd h e, fun _ => rfl⟩
    rintro σ' H' ⟨w, rfl, rfl, g1, g2⟩
    refine ⟨fun σ' H' => ∃ w : Str, σ' = [some (.ref st), some (.int n), some (.str letters), some (.int sty), some (.int sh), some (.int code), some (.int spt), some (.str bs), some (.int i), some (.ref rv), some (.ref L), some (.str w)] ∧ H' = upd H6 L (.lst (zs.map V.str)) ∧ (sty ≠ 3 → Lt w ps ch) ∧ (sty = 3 → w = ⟨#[ch]⟩), ?_, ?_⟩
    · refine ite2 (fun e => ?_) (fun e => ?_)
      · have e : sty = 2 := of_decide_eq_true e
        have hw := g2 (by omega)
        subst hw
        have r2 := Int.emod_nonneg (3 * (i : Int) + spt) (by decide : (7 : Int) ≠ 0)
        have e1 := cutS_take bs (k := ((3 * (i : Int) + spt) % 7).toNat)
        rw [show ((((3 * (i : Int) + spt) % 7).toNat : Nat) : Int) = (3 * (i : Int) + spt) % 7 by omega] at e1
        have l1 := cutS_length bs none (some ((3 * (i : Int) + spt) % 7))
        refine ⟨.inl (.inl ⟨by decide, by decide⟩), by decide, _, rfl, line_of (by omega), line_of (by rw [one_len]; omega), ?_⟩
        refine ⟨_, rfl, rfl, fun _ => ⟨fun d hd => ?_, ?_, ?_⟩, fun h => absurd h (by omega)⟩
        · rw [cps_add, e1, one_cps] at hd
          rcases List.mem_append.mp hd with h | h
          · rw [List.mem_singleton.mp h]; exact hcm
          · exact ha d (List.mem_of_mem_take h)
        · have hps1 : ps = 0 := by rw [hps, if_neg (by omega), if_neg (by omega)]
          rw [cps_add, one_cps, hps1]
          rfl
        · rw [len_add, one_len]
          omega
      · have e : ¬ sty = 2 := of_decide_eq_false (Bool.eq_false_iff.mpr e)
        refine ⟨w, rfl, rfl, fun h3 => ?_, fun h3 => g2 (by omega)⟩
        by_cases h1 : sty = 1
        · exact g1 h1
        · have hw := g2 h1
          subst hw
          refine ⟨fun d hd => ?_, ?_, by rw [one_len]; decide⟩
          · rw [List.mem_singleton.mp hd]; exact hcm
          · have hps1 : ps = 0 := by rw [hps, if_neg h1, if_neg h3]
            rw [hps1]
            rfl
    rintro σ' H' ⟨w, rfl, rfl, g1, g2⟩
    refine ⟨fun σ' H' => ∃ w : Str, σ' = [some (.ref st), some (.int n), some (.str letters), some (.int sty), some (.int sh), some (.int code), some (.int spt), some (.str bs), some (.int i), some (.ref rv), some (.ref L), some (.str w)] ∧ H' = upd H6 L (.lst (zs.map V.str)) ∧ Lt w ps ch, ?_, ?_⟩
    · refine ite2 (fun e => ?_) (fun e => ?_)
      · have e : sty = 3 := of_decide_eq_true e
        have hw := g2 e
        subst hw
        have e1 := cutS_take bs (k := 5)
        have l1 := cutS_length bs none (some 5)
        refine ⟨_, rfl, line_of (by omega), line_of (by rw [one_len]; omega), line_of (by rw [len_add, one_len]; omega), ?_⟩
        refine ⟨_, rfl, rfl, fun d hd => ?_, ?_, ?_⟩
        · rw [cps_add, cps_add, show (cutS bs none (some (5 : Int))).cps.toList = bs.cps.toList.take 5 from e1, one_cps] at hd
          rcases List.mem_append.mp hd with h | h
          · rcases List.mem_append.mp h with h | h
            · exact ha d (List.mem_of_mem_take h)
            · rw [List.mem_singleton.mp h]; exact hcm
          · exact ha d h
        · have hps1 : ps = 5 := by rw [hps, if_neg (by omega), if_pos e]
          rw [cps_add, cps_add, show (cutS bs none (some (5 : Int))).cps.toList = bs.cps.toList.take 5 from e1, one_cps, hps1, List.append_assoc, List.getElem?_append_right (by rw [List.length_take]; omega), List.length_take, hbl]
          rfl
        · rw [len_add, len_add, ← len_cps (cutS bs none (some (5 : Int))), show (cutS bs none (some (5 : Int))).cps.toList = bs.cps.toList.take 5 from e1, one_len, List.length_take]
          omega
      · have e : ¬ sty = 3 := of_decide_eq_false (Bool.eq_false_iff.mpr e)
        exact ⟨w, rfl, rfl, g1 e⟩
    rintro σ' H' ⟨w, rfl, rfl, g1⟩
    refine ⟨fun σ' H' => ∃ w : Str, σ' = [some (.ref st), some (.int n), some (.str letters), some (.int sty), some (.int sh), some (.int code), some (.int spt), some (.str bs), some (.int i), some (.ref rv), some (.ref L), some (.str w)] ∧ H' = upd H6 L (.lst (zs.map V.str)) ∧ Lt w ps ch ∧ inV (.str w) resv = false, ?_, ?_⟩
    · refine ⟨_, .inl (SqL.of hrv3), rfl, rfl, ?_⟩
      refine ite2 (fun e => ?_) (fun e => ?_)
      · have e : inV (.str w) resv = true := e
        obtain ⟨z1, z2⟩ := resv_z e
        exact ⟨line_of (by show w.length + 1 ≤ _; omega), _, rfl, rfl, g1.z z2, z1⟩
      · exact ⟨w, rfl, rfl, g1, Bool.eq_false_iff.mpr e⟩
    rintro σ' H' ⟨w, rfl, rfl, g1, gr⟩
    refine ⟨.inl ⟨rfl, _, SqL.of upd_same⟩, L, _, _, rfl, rfl, upd_same, line_lt (by rw [List.length_map]; omega), ?_⟩
    refine ⟨_, _, zs ++ [w], rfl, ?_, by rw [List.length_append, hzl]; rfl, fun j z hj => ?_⟩
    · rw [upd_upd, List.map_append]
      rfl
    · by_cases h : j < zs.length
      · rw [List.getElem?_append_left h] at hj
        exact hzs j z hj
      · rw [List.getElem?_append_right (by omega)] at hj
        have hj0 : j - zs.length = 0 := by
          have := (List.getElem?_eq_some_iff.mp hj).1
          rw [List.length_singleton] at this
          omega
        rw [hj0] at hj
        cases hj
        rw [show j = i by omega, hcc]
        exact ⟨g1, gr⟩
  · rintro σ' H' ⟨y, z, zs, rfl, rfl, hzl, hzs⟩
    refine q _ L zs ?_ (hd6.at Ls Lc) L0 upd_same (by omega) (fun z hz => ?_) ?_
    · intro b o nb hb
      rw [upd_ne (ne_of_none hb L0)]
      exact b6 b o nb hb
    · obtain ⟨j, hj, e⟩ := List.getElem_of_mem hz
      obtain ⟨h1, h2⟩ := hzs j z (by rw [List.getElem?_eq_getElem hj, e])
      exact ⟨h1.name h2, h1.2.2⟩
    · show List.Pairwise (· ≠ ·) zs
      rw [List.pairwise_iff_getElem]
      intro i j hi hj hij e
      have ej : zs[j]? = some zs[j] := List.getElem?_eq_getElem hj
      have ei : zs[i]? = some zs[j] := by rw [← e]; exact List.getElem?_eq_getElem hi
      obtain ⟨h1, _⟩ := hzs i _ ei
      obtain ⟨h2, _⟩ := hzs j _ ej
      have := h1.2.1.symm.trans h2.2.1
      have := Option.some.inj this
      omega
end
section
variable {P : Program} {w : World} {K : PySem.W.Frag} {mg : Str → Option Value} {base : Heap}
variable {t_LETTERS t_LONGEST_NAME : Tok} {a_RESERVED a_BadName a_BadOrder a_ElseputError a_KeyOrder a_UnknownField a_UnknownKey a_UnknownName a_UnknownShape : Addr}
/-! ### strings that are no names -/
theorem resv_asc : ∀ z ∈ (["always", "never", "and", "or", "not", "when", "add", "set", "change", "tell", "refuse", "take", "look", "free", "lock", "keep", "keys", "fields"] : List Str), inV (.str z) resv = true ∧ z.length ≤ 12 ∧ ∀ c ∈ z.cps.toList, c < 16 ^ 8 := by decide +kernel
theorem not_name_resv {z : Str} (h : inV (.str z) resv = true) : isName z = false := by
  cases e : isName z with
  | false => rfl
  | true =>
    have := (isName_mem e).2.2.2
    rw [h] at this
    cases this
theorem flat_rep {α : Type} (xs : List α) : ∀ n : Nat, (List.replicate n xs).flatten.length = n * xs.length
  | 0 => by simp
  | n + 1 => by
    rw [List.replicate_succ, List.flatten_cons, List.length_append, flat_rep xs n, Nat.succ_mul]
    omega
abbrev strange : List Str := [" ", "A", "Z", "0", "9", "_", "-", "`", "{", ":"]
theorem strange_bad : ∀ z ∈ strange, z.length = 1 ∧ (∀ c ∈ z.cps.toList, c ∉ letters.cps.toList ∧ c < 16 ^ 8) := by decide +kernel
def sp__law_bad_name (K : PySem.W.Frag) : Sp := fun vs H Q _ => ∃ (st scr : Addr) (z : Str), vs = [.ref st, .str z] ∧ DrAt H st scr ∧ isName z = true ∧
  ∀ (H' : Hp) (w : Str), Bt st H H' → DrAt H' st scr → isName w = false → w.length ≤ 30 → Asc w → Q (.str w) H'
theorem len__law_bad_name {vs : List V} {H : Hp} {Q : VK} {E : XK} (h : sp__law_bad_name K vs H Q E) : vs.length = 2 := by
  obtain ⟨_, _, _, rfl, _⟩ := h
  rfl
theorem ok__law_bad_name {f : Addr} {fd : FuncData} {f__law_draw : Addr} {fd__law_draw : FuncData} {f__law_pick : Addr} {fd__law_pick : FuncData} (F : Fun K "_law_bad_name" "_law_bad_name" s__law_bad_name f fd) (T : Gs K mg t_LETTERS t_LONGEST_NAME a_RESERVED a_BadName a_BadOrder a_ElseputError a_KeyOrder a_UnknownField a_UnknownKey a_UnknownName a_UnknownShape) (c__law_draw : Cal P w K mg base CX0 1 "_law_draw" f__law_draw fd__law_draw ["_law_state_here", "_law_many"] (sp__law_draw K)) (c__law_pick : Cal P w K mg base CX0 2 "_law_pick" f__law_pick fd__law_pick ["_law_state_here", "_law_row"] (sp__law_pick K)) : FnOk P w K mg base CX0 3 f fd ["_law_state_here", "_law_good"] (sp__law_bad_name K) := by
  refine F.ok sc__law_bad_name (fun vs H Q E h => len__law_bad_name h) (fun cdv A outer s H vs Q E hr h => ?_)
  obtain ⟨st, scr, z, rfl, hd, hz, q⟩ := h
  obtain ⟨zm, z1, z12, zr⟩ := isName_mem hz
  have za := isName_asc hz
  refine ⟨_, (pss_cons (ps_set (i := 2) sc__law_bad_name.nd rfl (.inl rfl) (pe_call c__law_draw.G (hr.mono (by first | decide | omega)) rfl c__law_draw.m c__law_draw.kp c__law_draw.b .nil pass0 (pa_cons (v_ 0) (pa_cons pe_int pa_nil)))) (pss_cons (ps_set (i := 3) sc__law_bad_name.nd rfl (.inl rfl) (pe_lst (pa_cons pe_str (pa_cons pe_str (pa_cons pe_str (pa_cons pe_str (pa_cons pe_str (pa_cons pe_str (pa_cons pe_str (pa_cons pe_str (pa_cons pe_str (pa_cons pe_str (pa_cons pe_str (pa_cons pe_str pa_nil)))))))))))))) (pss_cons (ps_set (i := 3) sc__law_bad_name.nd rfl (.inl rfl) (pe_op (addK K) (v_ 3) (pe_lst (pa_cons pe_str (pa_cons pe_str (pa_cons pe_str (pa_cons pe_str (pa_cons pe_str (pa_cons pe_str pa_nil))))))))) (pss_cons (ps_if (pt_c (eqK K hr.units) (v_ 2) pe_int) (pss_one (ps_ret (pe_call c__law_pick.G (hr.mono (by first | decide | omega)) rfl c__law_pick.m c__law_pick.kp c__law_pick.b .nil pass0 (pa_cons (v_ 0) (pa_cons (v_ 3) pa_nil))))) pss_nil) (pss_cons (ps_if (pt_c (eqK K hr.units) (v_ 2) pe_int) (pss_one (ps_ret (pe_slice (slK K) (pe_op op_mulSM (v_ 1) pe_int) po_none (po_some pe_int)))) pss_nil) (pss_cons (ps_if (pt_c (eqK K hr.units) (v_ 2) pe_int) (pss_one (ps_ret pe_str)) pss_nil) (pss_cons (ps_set (i := 4) sc__law_bad_name.nd rfl (.inl rfl) (pe_call c__law_draw.G (hr.mono (by first | decide | omega)) rfl c__law_draw.m c__law_draw.kp c__law_draw.b .nil pass0 (pa_cons (v_ 0) (pa_cons (pe_op (addK K) (pe_callB (lenK K) (by rfl) T.z_len PySem.boot_len (pa_cons (v_ 1) pa_nil)) pe_int) pa_nil)))) (pss_one (ps_ret (pe_op (addK K) (pe_op (addK K) (pe_slice (slK K) (v_ 1) po_none (po_some (v_ 4))) (pe_call c__law_pick.G (hr.mono (by first | decide | omega)) rfl c__law_pick.m c__law_pick.kp c__law_pick.b .nil pass0 (pa_cons (v_ 0) (pa_cons (pe_lst (pa_cons pe_str (pa_cons pe_str (pa_cons pe_str (pa_cons pe_str (pa_cons pe_str (pa_cons pe_str (pa_cons pe_str (pa_cons pe_str (pa_cons pe_str (pa_cons pe_str pa_nil))))))))))) pa_nil)))) (pe_slice (slK K) (v_ 1) (po_some (v_ 4)) po_none))))))))))), ?_⟩
  refine ⟨st, scr, _, rfl, hd, by decide, many_small (by decide) (by decide), fun kd l0 k0 k1 hd0 => ?_⟩
  have b0 : Bt st H (upd H st (.lst l0)) := Bt.st
  generalize upd H st (.lst l0) = H0 at hd0 b0 ⊢
  refine ⟨(by show 12 ≤ sizeLine; decide), fun o no => ?_⟩
  refine ⟨(by show 6 ≤ sizeLine; decide), fun p np => ?_⟩
  have hpo := new_ne np
  refine .inl ⟨_, _, (by rw [upd_ne hpo.symm, upd_same]), upd_same, (by show 18 ≤ sizeLine; decide), fun rv nrv => ?_⟩
  have sm := ((same_new (o := .lst [.str "always", .str "never", .str "and", .str "or", .str "not", .str "when", .str "add", .str "set", .str "change", .str "tell", .str "refuse", .str "take"]) no).trans (same_new (o := .lst [.str "look", .str "free", .str "lock", .str "keep", .str "keys", .str "fields"]) np)).trans (same_new (o := .lst resv) nrv)
  generalize hH5 : upd _ rv _ = H5
  have hrv : H5 rv = some (.lst resv) := by rw [← hH5]; exact upd_same
  have hd5 : DrAt H5 st scr := by rw [← hH5]; exact hd0.new sm
  have b5 : Bt st H H5 := by rw [← hH5]; exact b0.trans (Bt.same (st := st) sm)
  have rvst : rv ≠ st := hd0.ne_new (free_new (free_new nrv))
  clear hH5
  refine ite2 (fun e => ?_) (fun e => ?_)
  · refine ⟨st, scr, _, rfl, hd5, .inr ⟨rv, _, rfl, hrv, rvst, by decide, by decide, fun x l hx hd2 => ?_⟩⟩
    rw [resv_strs] at hx
    obtain ⟨w, hw, rfl⟩ := List.mem_map.mp hx
    obtain ⟨w1, w2, w3⟩ := resv_asc w hw
    exact q _ w (b5.trans Bt.st) hd2 (not_name_resv w1) (by omega) w3
  refine ite2 (fun e => ?_) (fun e => ?_)
  · refine ⟨by decide, by decide, by omega, ?_⟩
    have e13 : (List.replicate 13 z.cps.toList).flatten.length = 13 * z.length := by rw [flat_rep, len_cps]
    have lr : (repS z 13).length = 13 * z.length := by
      rw [← len_cps, repS_cps]
      exact e13
    have e1 := cutS_take (repS z 13) (k := 13)
    refine ⟨_, rfl, line_of (by omega), ?_⟩
    have lw : (cutS (repS z 13) none (some ((13 : Nat) : Int))).length = 13 := by
      rw [← len_cps, e1, List.length_take, len_cps, lr]
      omega
    refine q H5 _ b5 hd5 ?_ (by show (cutS (repS z 13) none (some ((13 : Nat) : Int))).length ≤ 30; omega) ?_
    · show isName (cutS (repS z 13) none (some ((13 : Nat) : Int))) = false
      cases e : isName (cutS (repS z 13) none (some ((13 : Nat) : Int))) with
      | false => rfl
      | true =>
        have := (isName_mem e).2.2.1
        omega
    · intro c hc
      have hc : c ∈ (cutS (repS z 13) none (some ((13 : Nat) : Int))).cps.toList := hc
      rw [e1] at hc
      have hc := List.mem_of_mem_take hc
      rw [repS_cps] at hc
      obtain ⟨l, hl, hc⟩ := List.mem_flatten.mp hc
      rw [List.eq_of_mem_replicate hl] at hc
      exact za c hc
  refine ite2 (fun e => ?_) (fun e => ?_)
  · exact q H5 _ b5 hd5 (by decide +kernel) (by decide) (fun c hc => nomatch hc)
  refine ⟨line_of (by omega), ?_⟩
  refine ⟨st, scr, _, rfl, hd5, by omega, many_small (by omega) (by omega), fun sp l s0 s1 hd1 => ?_⟩
  have b6 : Bt st H (upd H5 st (.lst l)) := b5.trans Bt.st
  generalize upd H5 st (.lst l) = H6 at hd1 b6 ⊢
  have e1 := cutS_take z (k := sp.toNat)
  have e2 := cutS_drop z (k := sp.toNat)
  rw [show ((sp.toNat : Nat) : Int) = sp by omega] at e1 e2
  have l1 := cutS_length z none (some sp)
  have l2 := cutS_length z (some sp) none
  refine ⟨_, rfl, line_of (by omega), ?_⟩
  refine ⟨(by show 10 ≤ sizeLine; decide), fun u nu => ?_⟩
  have su := same_new (o := .lst (strange.map V.str)) nu
  have hu : (upd H6 u (.lst (strange.map V.str))) u = some (.lst (strange.map V.str)) := upd_same
  have ust : u ≠ st := hd1.ne_new nu
  refine ⟨st, scr, _, rfl, hd1.new su, .inr ⟨u, _, rfl, hu, ust, by decide, by decide, fun x l hx hd2 => ?_⟩⟩
  obtain ⟨w, hw, rfl⟩ := List.mem_map.mp hx
  obtain ⟨w1, w2⟩ := strange_bad w hw
  refine ⟨line_of (by omega), _, rfl, line_of (by omega), line_of (by rw [len_add]; omega), ?_⟩
  refine q _ _ ((b6.trans (Bt.same (st := st) su)).trans Bt.st) hd2 ?_ (by rw [len_add, len_add]; omega) ?_
  · cases e : isName (cutS z none (some sp) ++ w ++ cutS z (some sp) none) with
    | false => rfl
    | true =>
      obtain ⟨c, hc⟩ : ∃ c, c ∈ w.cps.toList := by
        cases hw : w.cps.toList with
        | nil =>
          have := len_cps w
          rw [hw, w1] at this
          cases this
        | cons c r => exact ⟨c, List.mem_cons_self⟩
      refine absurd ((isName_mem e).1 c ?_) (w2 c hc).1
      rw [cps_add, cps_add]
      exact List.mem_append_left _ (List.mem_append_right _ hc)
  · intro d hd
    rw [cps_add, cps_add, e1, e2] at hd
    rcases List.mem_append.mp hd with h | h
    · rcases List.mem_append.mp h with h | h
      · exact za d (List.mem_of_mem_take h)
      · exact (w2 d h).2
    · exact za d (List.mem_of_mem_drop h)
end
section
variable {P : Program} {w : World} {K : PySem.W.Frag} {mg : Str → Option Value} {base : Heap}
variable {t_LETTERS t_LONGEST_NAME : Tok} {a_RESERVED a_BadName a_BadOrder a_ElseputError a_KeyOrder a_UnknownField a_UnknownKey a_UnknownName a_UnknownShape : Addr}
/-! ### the longer row -/
def Kinds (H : Hp) (u : Addr) (a b : Bool) : Prop := H u = some (.tup [.bl a, .bl b, .bl false, .bl true])
theorem same_mk {H : Hp} {x dx C : Addr} (nx : H x = none) (nd : H dx = none) : Same H (upd (upd H dx (.own x)) x (.ins C dx [])) := fun b o hb => by
  rw [upd_ne (ne_of_none hb nx), upd_ne (ne_of_none hb nd)]
  exact hb
def MkI (K : PySem.W.Frag) (H : Hp) (x : Addr) (zs : List Str) (Q : VK) (E : XK) : Prop := match bad1 zs with
  | some z => BadN K H z E
  | none => if zs.Nodup then ∀ H' : Hp, Same H H' → OrAt K H' x zs → Q .non H' else BadO K H E
theorem inits_of {K : PySem.W.Frag} {H : Hp} {x dx C : Addr} {zs : List Str} {Q : VK} {E : XK} (hC : PySem.W.nsIn K mainGlobals "KeyOrder" = some (some (.ref C))) (nx : H x = none) (nd : H dx = none) (q : MkI K H x zs Q E) : Inits K (upd (upd H dx (.own x)) x (.ins C dx [])) x C dx zs Q E := by
  have after : ∀ {H' : Hp}, Bt x (upd (upd H dx (.own x)) x (.ins C dx [])) H' → Same H H' := fun {H'} k b o hb => k b o (ne_of_none hb nx) (same_mk nx nd _ _ hb)
  unfold MkI at q
  unfold Inits
  cases hb : bad1 zs with
  | some z =>
    rw [hb] at q
    exact fun B d H' hB k nd' hd => q B d H' hB (after k) (free_new (free_new nd')) hd
  | none =>
    rw [hb] at q
    by_cases hn : zs.Nodup
    · rw [if_pos hn] at q
      show if zs.Nodup then _ else _
      rw [if_pos hn]
      exact fun H' t k e1 e2 => q H' (after k) ⟨C, dx, t, hC, e1, e2⟩
    · rw [if_neg hn] at q
      show if zs.Nodup then _ else _
      rw [if_neg hn]
      exact fun B H' hB k => q B H' hB (after k)
/-- what trying to make an order of zs tells -/
def TryAt (H : Hp) (t : Addr) (zs : List Str) : Prop := match bad1 zs with
  | some z => ∃ u : Addr, H t = some (.tup [.str "refused", .ref u, .str z]) ∧ Kinds H u true false
  | none => if zs.Nodup then ∃ u : Addr, H t = some (.tup [.str "made", .ref u]) ∧ H u = some (.tup (zs.map V.str)) else ∃ u : Addr, H t = some (.tup [.str "refused", .ref u, .non]) ∧ Kinds H u false true
theorem try_bad {H : Hp} {t u : Addr} {zs : List Str} {z : Str} (hb : bad1 zs = some z) (h1 : H t = some (.tup [.str "refused", .ref u, .str z])) (h2 : Kinds H u true false) : TryAt H t zs := by
  unfold TryAt
  rw [hb]
  exact ⟨u, h1, h2⟩
theorem try_made {H : Hp} {t u : Addr} {zs : List Str} (hb : bad1 zs = none) (hn : zs.Nodup) (h1 : H t = some (.tup [.str "made", .ref u])) (h2 : H u = some (.tup (zs.map V.str))) : TryAt H t zs := by
  unfold TryAt
  rw [hb]
  show if zs.Nodup then _ else _
  rw [if_pos hn]
  exact ⟨u, h1, h2⟩
theorem try_dup {H : Hp} {t u : Addr} {zs : List Str} (hb : bad1 zs = none) (hn : ¬ zs.Nodup) (h1 : H t = some (.tup [.str "refused", .ref u, .non])) (h2 : Kinds H u false true) : TryAt H t zs := by
  unfold TryAt
  rw [hb]
  show if zs.Nodup then _ else _
  rw [if_neg hn]
  exact ⟨u, h1, h2⟩
def sp__law_try (K : PySem.W.Frag) : Sp := fun vs H Q _ => ∃ (p : Addr) (zs : List Str), vs = [.ref p] ∧ SeqS H p zs ∧ zs.length ≤ 20 ∧ (∀ z ∈ zs, z.length ≤ 1000 ∧ Asc z) ∧ ∀ (H' : Hp) (t : Addr), Same H H' → TryAt H' t zs → Q (.ref t) H'
theorem len__law_try {vs : List V} {H : Hp} {Q : VK} {E : XK} (h : sp__law_try K vs H Q E) : vs.length = 1 := by
  obtain ⟨_, _, rfl, _⟩ := h
  rfl
theorem ok__law_try {f : Addr} {fd : FuncData} {f_KeyOrder___init__ : Addr} {fd_KeyOrder___init__ : FuncData} (F : Fun K "_law_try" "_law_try" s__law_try f fd) (T : Gs K mg t_LETTERS t_LONGEST_NAME a_RESERVED a_BadName a_BadOrder a_ElseputError a_KeyOrder a_UnknownField a_UnknownKey a_UnknownName a_UnknownShape) (c_KeyOrder___init__ : CalI P w K mg base (L2.CX P w) 4 "KeyOrder" a_KeyOrder f_KeyOrder___init__ fd_KeyOrder___init__ ["self", "names"] (sp_KeyOrder___init__ K)) : FnOk P w K mg base CX0 6 f fd ["_law_row"] (sp__law_try K) := by
  refine F.ok sc__law_try (fun vs H Q E h => len__law_try h) (fun cdv A outer s H vs Q E hr h => ?_)
  obtain ⟨p, zs, rfl, hp, lz, hz, q⟩ := h
  refine ⟨_, (pss_cons (ps_try_as (i := 1) rfl rfl sc__law_try.nd rfl rfl ⟨rfl, by decide +kernel, .inl T.g_ElseputError⟩ takes0 (fun W pn xe tk po => (pss_one (ps_set (i := 2) sc__law_try.nd rfl (.inl rfl) (pe_makeS c_KeyOrder___init__.mkc c_KeyOrder___init__.G (hr.mono (by first | decide | omega)) rfl c_KeyOrder___init__.m c_KeyOrder___init__.b (fun σ => passAt tk σ) (pa_cons (v_ 0) pa_nil))))) (fun ea oe ecls ed epn hz hf => (pss_cons (ps_set (i := 3) sc__law_try.nd rfl (.inl rfl) pe_non) (Evl.pss_cut (ps_if (pt_t K (pe_callB (call_isN hz hf) (by rfl) T.z_isinstance (by decide +kernel) (pa_cons (v_ 1) (pa_cons (pe_glob (v := .ref a_BadName) rfl T.g_BadName rfl) pa_nil)))) (pss_one (ps_set (i := 3) sc__law_try.nd rfl (.inl rfl) (pe_xf T.x_BadName.xf (T.x_BadName.no _ (by decide)) hz hf (v_ 1)))) pss_nil) (pss_cons (ps_set (i := 4) sc__law_try.nd rfl (.inl rfl) (pe_tup (pa_cons (pe_callB (call_isN hz hf) (by rfl) T.z_isinstance (by decide +kernel) (pa_cons (v_ 1) (pa_cons (pe_glob (v := .ref a_BadName) rfl T.g_BadName rfl) pa_nil))) (pa_cons (pe_callB (call_isN hz hf) (by rfl) T.z_isinstance (by decide +kernel) (pa_cons (v_ 1) (pa_cons (pe_glob (v := .ref a_BadOrder) rfl T.g_BadOrder rfl) pa_nil))) (pa_cons (pe_callB (call_isN hz hf) (by rfl) T.z_isinstance (by decide +kernel) (pa_cons (v_ 1) (pa_cons (pe_glob (v := .ref a_UnknownName) rfl T.g_UnknownName rfl) pa_nil))) (pa_cons (pe_callB (call_isN hz hf) (by rfl) T.z_isinstance (by decide +kernel) (pa_cons (v_ 1) (pa_cons (pe_bltn (v := .ty "ValueError") (u := .type "ValueError") (by rfl) T.z_ValueError (by decide +kernel) rfl) pa_nil))) pa_nil)))))) (pss_one (ps_ret (pe_tup (pa_cons pe_str (pa_cons (v_ 4) (pa_cons (v_ 3) pa_nil))))))))))) (pss_one (ps_ret (pe_tup (pa_cons pe_str (pa_cons (e_f K (v_ 2)) pa_nil)))))), ?_⟩
  intro x dx nx nd ne
  refine ⟨x, p, a_KeyOrder, dx, zs, rfl, T.n_KeyOrder, upd_same, hp.same (same_mk nx nd), lz, hz, inits_of T.n_KeyOrder nx nd ?_⟩
  clear nx nd ne
  unfold MkI
  cases hb : bad1 zs with
  | some z =>
    intro C d H1 hC s1 nd hd
    cases hC.symm.trans T.n_BadName
    refine ⟨true, T.m_BadName_ElseputError, fun _ e ne => ?_, fun h => nomatch h⟩
    refine ⟨fun σ' H' => H' = H1 ∧ σ' = [some (.ref p), some (.ref e), none, some (.str z), none], ?_, ?_⟩
    · refine .inl ⟨_, d, _, _, _, true, rfl, rfl, rfl, hd, T.x_BadName.is, fun u h => h, T.k_BadName_BadName, ?_⟩
      exact ⟨rfl, rfl, d, _, _, rfl, hd, rfl, rfl, rfl⟩
    rintro σ' H' ⟨rfl, rfl⟩
    refine .inl ⟨_, d, _, _, _, true, rfl, rfl, rfl, hd, T.x_BadName.is, fun u h => h, T.k_BadName_BadName, ?_⟩
    refine .inl ⟨_, d, _, _, _, false, rfl, rfl, rfl, hd, T.x_BadName.is, fun u h => h, T.k_BadName_BadOrder, ?_⟩
    refine .inl ⟨_, d, _, _, _, false, rfl, rfl, rfl, hd, T.x_BadName.is, fun u h => h, T.k_BadName_UnknownName, ?_⟩
    refine .inl ⟨_, d, _, _, _, true, rfl, rfl, rfl, hd, T.x_BadName.is, fun u h => h, T.k_BadName_ValueError, ?_⟩
    refine ⟨(by show 4 ≤ sizeLine; decide), fun u nu => ?_⟩
    refine ⟨(by show 3 ≤ sizeLine; decide), fun t nt => ?_⟩
    have s2 := same_new (o := .tup [.bl true, .bl false, .bl false, .bl true]) nu
    have s3 := same_new (o := .tup [.str "refused", .ref u, .str z]) nt
    exact q _ t ((s1.trans s2).trans s3) (try_bad hb upd_same (s3 _ _ upd_same))
  | none =>
    by_cases hn : zs.Nodup
    · show if zs.Nodup then _ else _
      rw [if_pos hn]
      intro H1 s1 hA
      refine ⟨rfl, ?_⟩
      obtain ⟨C, dx2, t1, hC, ha, ht⟩ := hA
      cases hC.symm.trans T.n_KeyOrder
      refine ⟨x, a_KeyOrder, dx2, _, _, rfl, ha, T.cl_KeyOrder, T.na_KeyOrder_names, rfl, (by show 2 ≤ sizeLine; decide), fun t nt => ?_⟩
      have s3 := same_new (o := .tup [.str "made", .ref t1]) nt
      exact q _ t (s1.trans s3) (try_made hb hn upd_same (s3 _ _ ht))
    · show if zs.Nodup then _ else _
      rw [if_neg hn]
      intro C H1 hC s1
      cases hC.symm.trans T.n_BadOrder
      refine ⟨true, T.m_BadOrder_ElseputError, fun _ e ne => ?_, fun h => nomatch h⟩
      refine ⟨fun σ' H' => H' = H1 ∧ σ' = [some (.ref p), some (.ref e), none, some .non, none], ?_, ?_⟩
      · refine .inr ⟨_, _, _, false, rfl, rfl, rfl, T.x_BadOrder.is, fun u h => h, T.k_BadOrder_BadName, ?_⟩
        exact ⟨rfl, rfl⟩
      rintro σ' H' ⟨rfl, rfl⟩
      refine .inr ⟨_, _, _, false, rfl, rfl, rfl, T.x_BadOrder.is, fun u h => h, T.k_BadOrder_BadName, ?_⟩
      refine .inr ⟨_, _, _, true, rfl, rfl, rfl, T.x_BadOrder.is, fun u h => h, T.k_BadOrder_BadOrder, ?_⟩
      refine .inr ⟨_, _, _, false, rfl, rfl, rfl, T.x_BadOrder.is, fun u h => h, T.k_BadOrder_UnknownName, ?_⟩
      refine .inr ⟨_, _, _, true, rfl, rfl, rfl, T.x_BadOrder.is, fun u h => h, T.k_BadOrder_ValueError, ?_⟩
      refine ⟨(by show 4 ≤ sizeLine; decide), fun u nu => ?_⟩
      refine ⟨(by show 3 ≤ sizeLine; decide), fun t nt => ?_⟩
      have s2 := same_new (o := .tup [.bl false, .bl true, .bl false, .bl true]) nu
      have s3 := same_new (o := .tup [.str "refused", .ref u, .non]) nt
      exact q _ t ((s1.trans s2).trans s3) (try_dup hb hn upd_same (s3 _ _ upd_same))
theorem nodup_take {zs : List Str} {i : Nat} {z : Str} (h : (zs.take i).Nodup) (e : zs[i]? = some z) : (zs.take (i + 1)).Nodup ↔ z ∉ zs.take i := by
  rw [take_snoc e, List.nodup_append]
  constructor
  · rintro ⟨-, -, k⟩ hm
    exact k z hm z (List.mem_singleton.mpr rfl) rfl
  · intro k
    refine ⟨h, by simp, fun y hy w hw => ?_⟩
    rw [List.mem_singleton] at hw
    intro q
    exact k (hw ▸ q ▸ hy)
theorem nodup_not {zs : List Str} {i : Nat} (h : ¬ (zs.take i).Nodup) : ¬ zs.Nodup := fun k => h (k.sublist (List.take_sublist _ _))
def sp__law_due (K : PySem.W.Frag) : Sp := fun vs H Q _ => ∃ (p n : Addr) (zs ns : List Str), vs = [.ref p, .ref n] ∧ H p = some (.lst (zs.map V.str)) ∧ H n = some (.lst (ns.map V.str)) ∧ zs.length ≤ 20 ∧ (∀ z ∈ zs, isName z = true ↔ z ∈ ns) ∧ ∀ (H' : Hp) (t : Addr), Same H H' → TryAt H' t zs → Q (.ref t) H'
theorem len__law_due {vs : List V} {H : Hp} {Q : VK} {E : XK} (h : sp__law_due K vs H Q E) : vs.length = 2 := by
  obtain ⟨_, _, _, _, rfl, _⟩ := h
  rfl
theorem ok__law_due {f : Addr} {fd : FuncData} (F : Fun K "_law_due" "_law_due" s__law_due f fd) (T : Gs K mg t_LETTERS t_LONGEST_NAME a_RESERVED a_BadName a_BadOrder a_ElseputError a_KeyOrder a_UnknownField a_UnknownKey a_UnknownName a_UnknownShape) : FnOk P w K mg base CX0 1 f fd ["_law_row", "_law_names_here"] (sp__law_due K) := by
  refine F.ok sc__law_due (fun vs H Q E h => len__law_due h) (fun cdv A outer s H vs Q E hr h => ?_)
  obtain ⟨p, n, zs, ns, rfl, hp, hn, lz, hin, q⟩ := h
  refine ⟨_, (pss_cons (ps_for PassesOwn.never rfl (pi_list (v_ 0)) (pg_name (i := 2) sc__law_due.nd rfl (.inl rfl)) (pss_one (ps_if (pt_c (notInK K) (v_ 2) (v_ 1)) (pss_one (ps_ret (pe_tup (pa_cons pe_str (pa_cons (pe_tup (pa_cons pe_bl (pa_cons pe_bl (pa_cons pe_bl (pa_cons pe_bl pa_nil))))) (pa_cons (v_ 2) pa_nil)))))) pss_nil))) (pss_cons (ps_for PassesOwn.never rfl (pi_range1 rfl T.z_range (pa_cons (pe_callB (lenK K) (by rfl) T.z_len PySem.boot_len (pa_cons (v_ 0) pa_nil)) pa_nil)) (pg_name (i := 3) sc__law_due.nd rfl (.inl rfl)) (pss_one (ps_if (pt_c (inK K) (e_x K (v_ 0) (v_ 3)) (pe_slice (slK K) (v_ 0) po_none (po_some (v_ 3)))) (pss_one (ps_ret (pe_tup (pa_cons pe_str (pa_cons (pe_tup (pa_cons pe_bl (pa_cons pe_bl (pa_cons pe_bl (pa_cons pe_bl pa_nil))))) (pa_cons pe_non pa_nil)))))) pss_nil))) (pss_one (ps_ret (pe_tup (pa_cons pe_str (pa_cons (pe_callTy (tupleK K) (by rfl) T.z_tuple (by decide +kernel) (pa_cons (v_ 0) pa_nil)) pa_nil))))))), ?_⟩
  refine ⟨p, rfl, ⟨_, SqL.of hp⟩, ?_⟩
  refine for_list (K := K) (a := p) (xs := zs.map V.str) (fun i σ' H' => (∃ y, σ' = [some (.ref p), some (.ref n), y, none]) ∧ H' = H ∧ ∀ y ∈ zs.take i, isName y = true) ⟨⟨_, rfl⟩, rfl, fun _ h => nomatch h⟩ (fun i σ' H' _ h => by rw [h.2.1]; exact SqL.of hp) ?_ ?_
  · rintro i v σ' H' hi ⟨⟨y, rfl⟩, rfl, hh⟩
    rw [List.getElem?_map] at hi
    obtain ⟨z, ez, rfl⟩ := Option.map_eq_some_iff.mp hi
    have hz := hin z (List.mem_of_getElem? ez)
    refine ⟨_, .inl (SqL.of hn), rfl, flat_strs, ?_⟩
    refine ite2 (fun e => ?_) (fun e => ?_)
    · have e : z ∉ ns := by
        have e : (!inV (.str z) (ns.map V.str)) = true := e
        rw [inV_str] at e
        simpa using e
      have hb := bad_at hh ez (fun k => e (hz.mp k))
      refine ⟨(by show 4 ≤ sizeLine; decide), fun u nu => ?_⟩
      refine ⟨(by show 3 ≤ sizeLine; decide), fun t nt => ?_⟩
      have s2 := same_new (o := .tup [.bl true, .bl false, .bl false, .bl true]) nu
      have s3 := same_new (o := .tup [.str "refused", .ref u, .str z]) nt
      exact q _ t (s2.trans s3) (try_bad hb upd_same (s3 _ _ upd_same))
    · have e : z ∈ ns := by
        have e : ¬ (!inV (.str z) (ns.map V.str)) = true := e
        rw [inV_str] at e
        simpa using e
      refine ⟨⟨_, rfl⟩, rfl, fun y hy => ?_⟩
      rw [take_snoc ez] at hy
      rcases List.mem_append.mp hy with h | h
      · exact hh y h
      · rw [List.mem_singleton.mp h]
        exact hz.mpr e
  rintro σ' H' ⟨⟨y, rfl⟩, rfl, hh⟩
  rw [List.length_map, List.take_length] at hh
  have hb := bad_none hh
  refine .inl ⟨_, .inl (SqL.of hp), _, rfl, by omega, by rw [List.length_map]; omega, ?_⟩
  rw [List.length_map]
  refine for_range (lo := 0) (n := zs.length) (fun i σ' H1 => Same H' H1 ∧ (∃ w, σ' = [some (.ref p), some (.ref n), y, w]) ∧ (zs.take i).Nodup) ⟨Same.refl _, ⟨_, rfl⟩, List.nodup_nil⟩ ?_ ?_
  · rintro i σ' H1 hi ⟨sm, ⟨w, rfl⟩, nd⟩
    have ei : zs[i]? = some zs[i] := List.getElem?_eq_getElem hi
    generalize zs[i] = z at ei
    have hp1 := sm _ _ hp
    refine ⟨_, .inl (SqL.of hp1), .str z, ?_, _, rfl, .inl ⟨_, SqL.of hp1, fun r nr => ?_⟩⟩
    · rw [show (0 : Int) + i = ((i : Nat) : Int) by omega]
      exact atI_nat (by rw [List.getElem?_map, ei]; rfl)
    have e0 : cutV (zs.map V.str) none (some (0 + (i : Int))) = (zs.take i).map V.str := by rw [cutV_take _ (by omega), show ((0 : Int) + i).toNat = i by omega, List.map_take]
    rw [e0]
    have sr := same_new (o := .lst ((zs.take i).map V.str)) nr
    refine ⟨_, .inl (SqL.of upd_same), rfl, flat_strs, ?_⟩
    refine ite2 (fun e => ?_) (fun e => ?_)
    · have e : z ∈ zs.take i := by
        have e : inV (.str z) ((zs.take i).map V.str) = true := e
        rw [inV_str] at e
        exact of_decide_eq_true e
      have hn : ¬ zs.Nodup := nodup_not (i := i + 1) fun k => (nodup_take nd ei).mp k e
      refine ⟨(by show 4 ≤ sizeLine; decide), fun u nu => ?_⟩
      refine ⟨(by show 3 ≤ sizeLine; decide), fun t nt => ?_⟩
      have s2 := same_new (o := .tup [.bl false, .bl true, .bl false, .bl true]) nu
      have s3 := same_new (o := .tup [.str "refused", .ref u, .non]) nt
      exact q _ t (((sm.trans sr).trans s2).trans s3) (try_dup hb hn upd_same (s3 _ _ upd_same))
    · have e : z ∉ zs.take i := by
        have e : ¬ inV (.str z) ((zs.take i).map V.str) = true := e
        rw [inV_str] at e
        simpa using e
      exact ⟨sm.trans sr, ⟨_, rfl⟩, (nodup_take nd ei).mpr e⟩
  · rintro σ' H1 ⟨sm, ⟨w, rfl⟩, nd⟩
    rw [List.take_length] at nd
    refine ⟨p, _, rfl, .inl ⟨SqL.of (sm _ _ hp), fun l nl => ?_⟩⟩
    have s2 := same_new (o := .tup (zs.map V.str)) nl
    refine ⟨(by show 2 ≤ sizeLine; decide), fun t nt => ?_⟩
    have s3 := same_new (o := .tup [.str "made", .ref l]) nt
    exact q _ t ((sm.trans s2).trans s3) (try_made hb nd upd_same (s3 _ _ upd_same))
/-! ### what is told is the same -/
theorem same_tupN {H : Hp} {t u : Addr} {xs ys : List V} {n : Nat} (h1 : H t = some (.tup xs)) (h2 : H u = some (.tup ys)) (hl : xs.length = ys.length) (h4 : ys.length ≤ 1000) (h : ∀ (i : Nat) (a b : V), xs[i]? = some a → ys[i]? = some b → SameV H n a b) : SameV H (n + 1) (.ref t) (.ref u) :=
  .inr (.inr (.inr (.inr ⟨t, u, _, _, rfl, rfl, .inr ⟨h1, h2⟩, hl, h4, h⟩)))
theorem same_str {H : Hp} {n : Nat} (z : Str) : SameV H (n + 1) (.str z) (.str z) := .inr (.inr (.inr (.inl ⟨z, rfl, rfl⟩)))
theorem same_bl {H : Hp} {n : Nat} (b : Bool) : SameV H (n + 1) (.bl b) (.bl b) := .inr (.inl ⟨b, rfl, rfl⟩)
theorem same_int {H : Hp} {n : Nat} (i : Int) : SameV H (n + 1) (.int i) (.int i) := .inr (.inr (.inl ⟨i, rfl, rfl⟩))
theorem same_non {H : Hp} {n : Nat} : SameV H (n + 1) .non .non := .inl ⟨rfl, rfl⟩
theorem same_strsT {H : Hp} {t u : Addr} {zs : List Str} {n : Nat} (h1 : H t = some (.tup (zs.map V.str))) (h2 : H u = some (.tup (zs.map V.str))) (hl : zs.length ≤ 1000) : SameV H (n + 2) (.ref t) (.ref u) := by
  refine same_tupN h1 h2 rfl (by rw [List.length_map]; exact hl) fun i a b ha hb => ?_
  rw [ha] at hb
  cases hb
  rw [List.getElem?_map] at ha
  obtain ⟨z, hz, rfl⟩ := Option.map_eq_some_iff.mp ha
  exact same_str z
theorem same_strsL {H : Hp} {t u : Addr} {zs : List Str} {n : Nat} (h1 : H t = some (.lst (zs.map V.str))) (h2 : H u = some (.lst (zs.map V.str))) (hl : zs.length ≤ 1000) : SameV H (n + 2) (.ref t) (.ref u) := by
  refine .inr (.inr (.inr (.inr ⟨t, u, _, _, rfl, rfl, .inl ⟨h1, h2⟩, rfl, by rw [List.length_map]; exact hl, fun i a b ha hb => ?_⟩)))
  rw [ha] at hb
  cases hb
  rw [List.getElem?_map] at ha
  obtain ⟨z, hz, rfl⟩ := Option.map_eq_some_iff.mp ha
  exact same_str z
theorem kinds_same {H : Hp} {u v : Addr} {a b : Bool} {n : Nat} (h1 : Kinds H u a b) (h2 : Kinds H v a b) : SameV H (n + 2) (.ref u) (.ref v) :=
  same_tupN h1 h2 rfl (by show 4 ≤ 1000; decide) fun i x y hx hy => by
    match i, hx, hy with
    | 0, hx, hy => cases hx; cases hy; exact same_bl _
    | 1, hx, hy => cases hx; cases hy; exact same_bl _
    | 2, hx, hy => cases hx; cases hy; exact same_bl _
    | 3, hx, hy => cases hx; cases hy; exact same_bl _
    | i + 4, hx, hy => cases hx
theorem same_2 {H : Hp} {t u : Addr} {x0 x1 y0 y1 : V} {n : Nat} (h1 : H t = some (.tup [x0, x1])) (h2 : H u = some (.tup [y0, y1])) (a : SameV H n x0 y0) (b : SameV H n x1 y1) : SameV H (n + 1) (.ref t) (.ref u) :=
  same_tupN h1 h2 rfl (by show 2 ≤ 1000; decide) fun i x y hx hy => by
    match i, hx, hy with
    | 0, hx, hy => cases hx; cases hy; exact a
    | 1, hx, hy => cases hx; cases hy; exact b
    | i + 2, hx, hy => cases hx
theorem same_3 {H : Hp} {t u : Addr} {x0 x1 x2 y0 y1 y2 : V} {n : Nat} (h1 : H t = some (.tup [x0, x1, x2])) (h2 : H u = some (.tup [y0, y1, y2])) (a : SameV H n x0 y0) (b : SameV H n x1 y1) (c : SameV H n x2 y2) : SameV H (n + 1) (.ref t) (.ref u) :=
  same_tupN h1 h2 rfl (by show 3 ≤ 1000; decide) fun i x y hx hy => by
    match i, hx, hy with
    | 0, hx, hy => cases hx; cases hy; exact a
    | 1, hx, hy => cases hx; cases hy; exact b
    | 2, hx, hy => cases hx; cases hy; exact c
    | i + 3, hx, hy => cases hx
theorem same_4 {H : Hp} {t u : Addr} {x0 x1 x2 x3 y0 y1 y2 y3 : V} {n : Nat} (h1 : H t = some (.tup [x0, x1, x2, x3])) (h2 : H u = some (.tup [y0, y1, y2, y3])) (a : SameV H n x0 y0) (b : SameV H n x1 y1) (c : SameV H n x2 y2) (d : SameV H n x3 y3) : SameV H (n + 1) (.ref t) (.ref u) :=
  same_tupN h1 h2 rfl (by show 4 ≤ 1000; decide) fun i x y hx hy => by
    match i, hx, hy with
    | 0, hx, hy => cases hx; cases hy; exact a
    | 1, hx, hy => cases hx; cases hy; exact b
    | 2, hx, hy => cases hx; cases hy; exact c
    | 3, hx, hy => cases hx; cases hy; exact d
    | i + 4, hx, hy => cases hx
theorem TryAt.same {H H' : Hp} {t : Addr} {zs : List Str} (h : TryAt H t zs) (s : Same H H') : TryAt H' t zs := by
  unfold TryAt at *
  cases hb : bad1 zs with
  | some z =>
    rw [hb] at h
    obtain ⟨u, h1, h2⟩ := h
    exact ⟨u, s _ _ h1, s _ _ h2⟩
  | none =>
    rw [hb] at h
    have h : if zs.Nodup then _ else _ := h
    show if zs.Nodup then _ else _
    by_cases hn : zs.Nodup
    · rw [if_pos hn] at h ⊢
      obtain ⟨u, h1, h2⟩ := h
      exact ⟨u, s _ _ h1, s _ _ h2⟩
    · rw [if_neg hn] at h ⊢
      obtain ⟨u, h1, h2⟩ := h
      exact ⟨u, s _ _ h1, s _ _ h2⟩
theorem try_same {H : Hp} {t u : Addr} {zs : List Str} (hl : zs.length ≤ 1000) (h1 : TryAt H t zs) (h2 : TryAt H u zs) : SameV H 4 (.ref t) (.ref u) := by
  unfold TryAt at h1 h2
  cases hb : bad1 zs with
  | some z =>
    rw [hb] at h1 h2
    obtain ⟨v, a1, a2⟩ := h1
    obtain ⟨w, b1, b2⟩ := h2
    exact same_3 a1 b1 (same_str _) (kinds_same a2 b2) (same_str _)
  | none =>
    rw [hb] at h1 h2
    have h1 : if zs.Nodup then _ else _ := h1
    have h2 : if zs.Nodup then _ else _ := h2
    by_cases hn : zs.Nodup
    · rw [if_pos hn] at h1 h2
      obtain ⟨v, a1, a2⟩ := h1
      obtain ⟨w, b1, b2⟩ := h2
      exact same_2 a1 b1 (same_str _) (same_strsT a2 b2 hl)
    · rw [if_neg hn] at h1 h2
      obtain ⟨v, a1, a2⟩ := h1
      obtain ⟨w, b1, b2⟩ := h2
      exact same_3 a1 b1 (same_str _) (kinds_same a2 b2) same_non
end
section
variable {P : Program} {w : World} {K : PySem.W.Frag} {mg : Str → Option Value} {base : Heap}
variable {t_LETTERS t_LONGEST_NAME : Tok} {a_RESERVED a_BadName a_BadOrder a_ElseputError a_KeyOrder a_UnknownField a_UnknownKey a_UnknownName a_UnknownShape : Addr}
/-! ### ranks and sorting -/
def UnkT (H : Hp) (t : Addr) (z : Str) : Prop := H t = some (.tup [.str "unknown", .str z, .bl true, .bl false])
def sp__law_rank (K : PySem.W.Frag) : Sp := fun vs H Q _ => ∃ (a : Addr) (z : Str) (zs : List Str), vs = [.ref a, .str z] ∧ OrAt K H a zs ∧ zs.length ≤ 20 ∧ z.length ≤ 1000 ∧ Asc z ∧
  (∀ (i : Nat) (H' : Hp), zs[i]? = some z → (∀ j, j < i → zs[j]? ≠ some z) → Same H H' → Q (.int (i : Int)) H') ∧ (z ∉ zs → ∀ (H' : Hp) (t : Addr), Same H H' → UnkT H' t z → Q (.ref t) H')
theorem len__law_rank {vs : List V} {H : Hp} {Q : VK} {E : XK} (h : sp__law_rank K vs H Q E) : vs.length = 2 := by
  obtain ⟨_, _, _, rfl, _⟩ := h
  rfl
theorem ok__law_rank {f : Addr} {fd : FuncData} {f_KeyOrder___getitem__ : Addr} {fd_KeyOrder___getitem__ : FuncData} (F : Fun K "_law_rank" "_law_rank" s__law_rank f fd) (T : Gs K mg t_LETTERS t_LONGEST_NAME a_RESERVED a_BadName a_BadOrder a_ElseputError a_KeyOrder a_UnknownField a_UnknownKey a_UnknownName a_UnknownShape) (c_KeyOrder___getitem__ : CalSub P w K mg base (L2.CX P w) 3 a_KeyOrder f_KeyOrder___getitem__ fd_KeyOrder___getitem__ ["self", "name"] (sp_KeyOrder___getitem__ K)) : FnOk P w K mg base CX0 5 f fd ["_law_order", "_law_name"] (sp__law_rank K) := by
  refine F.ok sc__law_rank (fun vs H Q E h => len__law_rank h) (fun cdv A outer s H vs Q E hr h => ?_)
  obtain ⟨a, z, zs, rfl, hA, lz, z1, z2, q1, q2⟩ := h
  obtain ⟨C, dx, t, hC, ha, ht⟩ := id hA
  cases hC.symm.trans T.n_KeyOrder
  refine ⟨_, (pss_cons (ps_try_as (i := 2) rfl rfl sc__law_rank.nd rfl rfl ⟨rfl, by decide +kernel, .inl T.g_UnknownKey⟩ takes0 (fun W pn xe tk po => (pss_one (ps_set (i := 3) sc__law_rank.nd rfl (.inl rfl) (pe_itS c_KeyOrder___getitem__.su c_KeyOrder___getitem__.G (hr.mono (by first | decide | omega)) c_KeyOrder___getitem__.b (fun σ => passAt tk σ) (v_ 0) (v_ 1))))) (fun ea oe ecls ed epn hz hf => (pss_cons (ps_set (i := 4) sc__law_rank.nd rfl (.inl rfl) (pe_orM (pe_callB (call_isX hz hf) (by rfl) T.z_isinstance (by decide +kernel) (pa_cons (v_ 2) (pa_cons (pe_glob (v := .ref a_UnknownField) rfl T.g_UnknownField rfl) pa_nil))) (pe_one (pe_callB (call_isX hz hf) (by rfl) T.z_isinstance (by decide +kernel) (pa_cons (v_ 2) (pa_cons (pe_glob (v := .ref a_UnknownShape) rfl T.g_UnknownShape rfl) pa_nil)))))) (pss_one (ps_ret (pe_tup (pa_cons pe_str (pa_cons (pe_xf T.x_UnknownKey.xf (T.x_UnknownKey.no _ (by decide)) hz hf (v_ 2)) (pa_cons (pe_callB (call_isX hz hf) (by rfl) T.z_isinstance (by decide +kernel) (pa_cons (v_ 2) (pa_cons (pe_glob (v := .ref a_UnknownName) rfl T.g_UnknownName rfl) pa_nil))) (pa_cons (v_ 4) pa_nil)))))))))) (pss_one (ps_ret (v_ 3)))), ?_⟩
  refine ⟨a, dx, _, rfl, ha, a, z, zs, rfl, hA, lz, z1, z2, fun i H' e1 e2 s1 => ?_, fun nz => ?_⟩
  · exact q1 i H' e1 e2 s1
  · intro C3 d H1 hC3 sm nd hd
    cases hC3.symm.trans T.n_UnknownKey
    refine ⟨true, T.m_UnknownKey_UnknownKey, fun _ e ne => ?_, fun h => nomatch h⟩
    refine ⟨_, d, _, _, _, false, rfl, rfl, rfl, hd, T.x_UnknownKey.is, fun u h => h, T.k_UnknownKey_UnknownField, ?_⟩
    refine ⟨_, d, _, _, _, false, rfl, rfl, rfl, hd, T.x_UnknownKey.is, fun u h => h, T.k_UnknownKey_UnknownShape, ?_⟩
    refine ⟨rfl, rfl, d, _, _, rfl, hd, rfl, ?_⟩
    refine ⟨_, d, _, _, _, true, rfl, rfl, rfl, hd, T.x_UnknownKey.is, fun u h => h, T.k_UnknownKey_UnknownName, ?_⟩
    refine ⟨(by show 4 ≤ sizeLine; decide), fun t nt => ?_⟩
    have s3 := same_new (o := .tup [.str "unknown", .str z, .bl true, .bl false]) nt
    exact q2 nz _ t (sm.trans s3) upd_same
/-- what sorting ns by zs tells -/
def SortAt (H : Hp) (v : V) (zs ns : List Str) : Prop := match ns.find? (fun z => decide (z ∉ zs)) with
  | some z => ∃ t : Addr, v = .ref t ∧ UnkT H t z
  | none => ∃ D : Addr, v = .ref D ∧ H D = some (.lst ((byRank zs ns).map V.str))
theorem sort_unk {H : Hp} {t : Addr} {zs ns : List Str} {z : Str} (e : ns.find? (fun z => decide (z ∉ zs)) = some z) (h : UnkT H t z) : SortAt H (.ref t) zs ns := by
  unfold SortAt
  rw [e]
  exact ⟨t, rfl, h⟩
theorem sort_lst {H : Hp} {D : Addr} {zs ns : List Str} (e : ns.find? (fun z => decide (z ∉ zs)) = none) (h : H D = some (.lst ((byRank zs ns).map V.str))) : SortAt H (.ref D) zs ns := by
  unfold SortAt
  rw [e]
  exact ⟨D, rfl, h⟩
def sp__law_sort (K : PySem.W.Frag) : Sp := fun vs H Q _ => ∃ (a p : Addr) (zs ns : List Str), vs = [.ref a, .ref p] ∧ OrAt K H a zs ∧ SeqS H p ns ∧ zs.length ≤ 20 ∧ ns.length ≤ 20 ∧ (∀ z ∈ ns, z.length ≤ 1000 ∧ Asc z) ∧ ∀ (H' : Hp) (D : Addr), Same H H' → H D = none → SortAt H' (.ref D) zs ns → Q (.ref D) H'
theorem len__law_sort {vs : List V} {H : Hp} {Q : VK} {E : XK} (h : sp__law_sort K vs H Q E) : vs.length = 2 := by
  obtain ⟨_, _, _, _, rfl, _⟩ := h
  rfl
theorem ok__law_sort {f : Addr} {fd : FuncData} {f_KeyOrder___call__ : Addr} {fd_KeyOrder___call__ : FuncData} (F : Fun K "_law_sort" "_law_sort" s__law_sort f fd) (T : Gs K mg t_LETTERS t_LONGEST_NAME a_RESERVED a_BadName a_BadOrder a_ElseputError a_KeyOrder a_UnknownField a_UnknownKey a_UnknownName a_UnknownShape) (c_KeyOrder___call__ : CalC P w K mg base (L2.CX P w) 3 a_KeyOrder f_KeyOrder___call__ fd_KeyOrder___call__ ["self", "names"] (sp_KeyOrder___call__ K)) : FnOk P w K mg base CX0 4 f fd ["_law_order", "_law_row"] (sp__law_sort K) := by
  refine F.ok sc__law_sort (fun vs H Q E h => len__law_sort h) (fun cdv A outer s H vs Q E hr h => ?_)
  obtain ⟨a, p, zs, ns, rfl, hA, hp, lz, ln, hz, q⟩ := h
  obtain ⟨C, dx, t, hC, ha, ht⟩ := id hA
  cases hC.symm.trans T.n_KeyOrder
  refine ⟨_, (pss_cons (ps_try_as (i := 2) rfl rfl sc__law_sort.nd rfl rfl ⟨rfl, by decide +kernel, .inl T.g_UnknownKey⟩ takes0 (fun W pn xe tk po => (pss_one (ps_set (i := 3) sc__law_sort.nd rfl (.inl rfl) (pe_callOS (v_ 0) c_KeyOrder___call__.co c_KeyOrder___call__.G c_KeyOrder___call__.b (hr.mono (by first | decide | omega)) (fun σ => passAt tk σ) (pa_cons (v_ 1) pa_nil))))) (fun ea oe ecls ed epn hz hf => (pss_cons (ps_set (i := 4) sc__law_sort.nd rfl (.inl rfl) (pe_orM (pe_callB (call_isX hz hf) (by rfl) T.z_isinstance (by decide +kernel) (pa_cons (v_ 2) (pa_cons (pe_glob (v := .ref a_UnknownField) rfl T.g_UnknownField rfl) pa_nil))) (pe_one (pe_callB (call_isX hz hf) (by rfl) T.z_isinstance (by decide +kernel) (pa_cons (v_ 2) (pa_cons (pe_glob (v := .ref a_UnknownShape) rfl T.g_UnknownShape rfl) pa_nil)))))) (pss_one (ps_ret (pe_tup (pa_cons pe_str (pa_cons (pe_xf T.x_UnknownKey.xf (T.x_UnknownKey.no _ (by decide)) hz hf (v_ 2)) (pa_cons (pe_callB (call_isX hz hf) (by rfl) T.z_isinstance (by decide +kernel) (pa_cons (v_ 2) (pa_cons (pe_glob (v := .ref a_UnknownName) rfl T.g_UnknownName rfl) pa_nil))) (pa_cons (v_ 4) pa_nil)))))))))) (pss_one (ps_ret (v_ 3)))), ?_⟩
  refine ⟨a, rfl, ⟨dx, _, ha⟩, a, p, zs, ns, rfl, hA, hp, lz, ln, hz, ?_⟩
  unfold CallOut
  cases he : ns.find? (fun z => decide (z ∉ zs)) with
  | none =>
    intro H1 D s1 nD hD
    exact q H1 D s1 nD (sort_lst he hD)
  | some z =>
    intro C3 d H1 hC3 sm nd hd
    cases hC3.symm.trans T.n_UnknownKey
    refine ⟨true, T.m_UnknownKey_UnknownKey, fun _ e ne => ?_, fun h => nomatch h⟩
    refine ⟨_, d, _, _, _, false, rfl, rfl, rfl, hd, T.x_UnknownKey.is, fun u h => h, T.k_UnknownKey_UnknownField, ?_⟩
    refine ⟨_, d, _, _, _, false, rfl, rfl, rfl, hd, T.x_UnknownKey.is, fun u h => h, T.k_UnknownKey_UnknownShape, ?_⟩
    refine ⟨rfl, rfl, d, _, _, rfl, hd, rfl, ?_⟩
    refine ⟨_, d, _, _, _, true, rfl, rfl, rfl, hd, T.x_UnknownKey.is, fun u h => h, T.k_UnknownKey_UnknownName, ?_⟩
    refine ⟨(by show 4 ≤ sizeLine; decide), fun t nt => ?_⟩
    have s3 := same_new (o := .tup [.str "unknown", .str z, .bl true, .bl false]) nt
    exact q _ t (sm.trans s3) (Same.free sm nt) (sort_unk he upd_same)
def sp__law_sort_due (K : PySem.W.Frag) : Sp := fun vs H Q _ => ∃ (p w : Addr) (zs ns : List Str), vs = [.ref p, .ref w] ∧ H p = some (.lst (zs.map V.str)) ∧ H w = some (.lst (ns.map V.str)) ∧ zs.length ≤ 20 ∧ ns.length ≤ 20 ∧ ∀ (H' : Hp) (D : Addr), Same H H' → SortAt H' (.ref D) zs ns → Q (.ref D) H'
theorem len__law_sort_due {vs : List V} {H : Hp} {Q : VK} {E : XK} (h : sp__law_sort_due K vs H Q E) : vs.length = 2 := by
  obtain ⟨_, _, _, _, rfl, _⟩ := h
  rfl
theorem ok__law_sort_due {f : Addr} {fd : FuncData} (F : Fun K "_law_sort_due" "_law_sort_due" s__law_sort_due f fd) (T : Gs K mg t_LETTERS t_LONGEST_NAME a_RESERVED a_BadName a_BadOrder a_ElseputError a_KeyOrder a_UnknownField a_UnknownKey a_UnknownName a_UnknownShape) : FnOk P w K mg base CX0 1 f fd ["_law_row", "_law_wanted"] (sp__law_sort_due K) := by
  refine F.ok sc__law_sort_due (fun vs H Q E h => len__law_sort_due h) (fun cdv A outer s H vs Q E hr h => ?_)
  obtain ⟨p, w, zs, ns, rfl, hp, hw, lz, ln, q⟩ := h
  refine ⟨_, (pss_cons (ps_for PassesOwn.never rfl (pi_list (v_ 1)) (pg_name (i := 2) sc__law_sort_due.nd rfl (.inr rfl)) (pss_one (ps_if (pt_c (notInK K) (v_ 2) (v_ 0)) (pss_one (ps_ret (pe_tup (pa_cons pe_str (pa_cons (v_ 2) (pa_cons pe_bl (pa_cons pe_bl pa_nil))))))) pss_nil))) (pss_cons (ps_set (i := 3) sc__law_sort_due.nd rfl (.inl rfl) (pe_lst pa_nil)) (pss_cons (ps_for PassesOwn.never rfl (pi_list (v_ 0)) (pg_name (i := 2) sc__law_sort_due.nd rfl (.inr rfl)) (pss_one (ps_set (i := 3) sc__law_sort_due.nd rfl (.inl rfl) (pe_op (addK K) (v_ 3) (pe_lc (own := [("_law_other", 4)]) (g := gName 4) (by rfl) sc__law_sort_due.nd (pi_list (v_ 1)) (blkOk_by (N := ["_law_row", "_law_wanted", "_law_name", "_law_result", "_law_other"]) (sc := defScope s__law_sort_due) (by decide +kernel)) (fun _ _ _ _ _ => pg_name (i := 4) sc__law_sort_due.nd rfl (Or.inl rfl)) (fun _ _ _ _ _ => pts_one (pt_c (eqK K hr.units) (v_ 4) (v_ 2))) (fun _ _ _ _ _ => (v_ 4))))))) (pss_one (ps_ret (v_ 3)))))), ?_⟩
  refine ⟨w, rfl, ⟨_, SqL.of hw⟩, ?_⟩
  refine for_list (K := K) (a := w) (xs := ns.map V.str) (fun i σ' H' => (∃ y, σ' = [some (.ref p), some (.ref w), y, none, none]) ∧ H' = H ∧ ∀ y ∈ ns.take i, y ∈ zs) ⟨⟨_, rfl⟩, rfl, fun _ h => nomatch h⟩ (fun i σ' H' _ h => by rw [h.2.1]; exact SqL.of hw) ?_ ?_
  · rintro i v σ' H' hi ⟨⟨y, rfl⟩, rfl, hh⟩
    rw [List.getElem?_map] at hi
    obtain ⟨z, ez, rfl⟩ := Option.map_eq_some_iff.mp hi
    refine ⟨_, .inl (SqL.of hp), rfl, flat_strs, ?_⟩
    refine ite2 (fun e => ?_) (fun e => ?_)
    · have e : z ∉ zs := by
        have e : (!inV (.str z) (zs.map V.str)) = true := e
        rw [inV_str] at e
        simpa using e
      refine ⟨(by show 4 ≤ sizeLine; decide), fun t nt => ?_⟩
      exact q _ t (same_new nt) (sort_unk (unk_at hh ez e) upd_same)
    · have e : z ∈ zs := by
        have e : ¬ (!inV (.str z) (zs.map V.str)) = true := e
        rw [inV_str] at e
        simpa using e
      refine ⟨⟨_, rfl⟩, rfl, fun y hy => ?_⟩
      rw [take_snoc ez] at hy
      rcases List.mem_append.mp hy with h | h
      · exact hh y h
      · rw [List.mem_singleton.mp h]
        exact e
  rintro σ' H' ⟨⟨y, rfl⟩, rfl, hh⟩
  rw [List.length_map, List.take_length] at hh
  have he := unk_none hh
  refine ⟨Nat.zero_le _, fun r nr => ?_⟩
  have s1 := same_new (o := .lst []) nr
  refine ⟨p, rfl, ⟨_, SqL.of (s1 _ _ hp)⟩, ?_⟩
  refine for_list (K := K) (a := p) (xs := zs.map V.str) (fun i σ' H1 => (∃ (y z : Option V) (r : Addr), σ' = [some (.ref p), some (.ref w), y, some (.ref r), z] ∧ H1 r = some (.lst ((byRank (zs.take i) ns).map V.str))) ∧ Same H' H1) ⟨⟨_, _, r, rfl, upd_same⟩, s1⟩ (fun i σ' H1 _ h => SqL.of (h.2 _ _ hp)) ?_ ?_
  · rintro i v σ' H1 hi ⟨⟨y, z, r, rfl, hr⟩, sm⟩
    rw [List.getElem?_map] at hi
    obtain ⟨x, ex, rfl⟩ := Option.map_eq_some_iff.mp hi
    refine ⟨w, rfl, ⟨_, SqL.of (sm _ _ hw)⟩, fun D nD => ?_⟩
    refine lc_it (walk_list (xs := ns.map V.str)) (fun j H2 => Same H1 H2 ∧ H2 D = some (.lst (((ns.take j).filter fun z => decide (z = x)).map V.str))) ⟨same_new nD, upd_same⟩ (fun _ _ _ h => SqL.of (h.1 _ _ (sm _ _ hw))) ?_ ?_
    · rintro j v H3 H4 hj ⟨s3, hD⟩ ⟨rfl, hv⟩
      have hv : (ns.map V.str)[j]? = some v := hv
      rw [List.getElem?_map] at hv
      obtain ⟨u, eu, rfl⟩ := Option.map_eq_some_iff.mp hv
      refine ⟨rfl, ?_⟩
      refine ite2 (fun e => ?_) (fun e => ?_)
      · have e : u = x := of_decide_eq_true e
        refine ⟨_, hD, line_lt ?_, fun b o hb => ?_, ?_⟩
        · have h2 := List.length_filter_le (fun z => decide (z = x)) (ns.take j)
          rw [List.length_map]
          rw [List.length_take] at h2
          omega
        · rw [upd_ne (ne_of_none hb nD)]
          exact s3 _ _ hb
        · have e5 : (ns.take (j + 1)).filter (fun z => decide (z = x)) = (ns.take j).filter (fun z => decide (z = x)) ++ [u] := by rw [take_snoc eu, List.filter_append, List.filter_cons_of_pos (by simpa using e), List.filter_nil]
          rw [upd_same, e5]
          simp
      · have e : ¬ u = x := of_decide_eq_false (Bool.eq_false_iff.mpr e)
        refine ⟨s3, ?_⟩
        rw [hD, take_snoc eu, List.filter_append, List.filter_cons_of_neg (by simpa using e), List.filter_nil, List.append_nil]
    · rintro H2 ⟨s3, hD⟩
      rw [List.length_map, List.take_length] at hD
      have h1 : (byRank (zs.take i) ns).length ≤ (zs.take i).length * 20 := fm_len fun y => Nat.le_trans (List.length_filter_le _ _) ln
      have h2 := List.length_filter_le (fun z => decide (z = x)) ns
      rw [List.length_take] at h1
      refine .inl ⟨_, _, s3 _ _ hr, hD, line_of (by rw [List.length_map, List.length_map]; omega), fun k nk => ?_⟩
      refine ⟨⟨_, _, k, rfl, ?_⟩, (sm.trans s3).trans (same_new nk)⟩
      rw [upd_same]
      unfold byRank
      rw [take_snoc ex, List.flatMap_append, List.flatMap_cons, List.flatMap_nil, List.append_nil, List.map_append]
  · rintro σ' H1 ⟨⟨y, z, r, rfl, hr⟩, sm⟩
    rw [List.length_map, List.take_length] at hr
    exact q H1 r sm (sort_lst he hr)
theorem SortAt.same {H H' : Hp} {v : V} {zs ns : List Str} (h : SortAt H v zs ns) (s : Same H H') : SortAt H' v zs ns := by
  unfold SortAt at *
  cases he : ns.find? (fun z => decide (z ∉ zs)) with
  | some z =>
    rw [he] at h
    obtain ⟨t, e, h⟩ := h
    exact ⟨t, e, s _ _ h⟩
  | none =>
    rw [he] at h
    obtain ⟨t, e, h⟩ := h
    exact ⟨t, e, s _ _ h⟩
theorem unk_same {H : Hp} {t u : Addr} {z : Str} (h1 : UnkT H t z) (h2 : UnkT H u z) : SameV H 4 (.ref t) (.ref u) := same_4 h1 h2 (same_str _) (same_str _) (same_bl _) (same_bl _)
theorem sort_same {H : Hp} {D D' : Addr} {zs ns : List Str} (hl : (byRank zs ns).length ≤ 1000) (h1 : SortAt H (.ref D) zs ns) (h2 : SortAt H (.ref D') zs ns) : SameV H 4 (.ref D) (.ref D') := by
  unfold SortAt at h1 h2
  cases he : ns.find? (fun z => decide (z ∉ zs)) with
  | some z =>
    rw [he] at h1 h2
    obtain ⟨t, e1, h1⟩ := h1
    obtain ⟨u, e2, h2⟩ := h2
    cases e1
    cases e2
    exact unk_same h1 h2
  | none =>
    rw [he] at h1 h2
    obtain ⟨t, e1, h1⟩ := h1
    obtain ⟨u, e2, h2⟩ := h2
    cases e1
    cases e2
    exact same_strsL h1 h2 hl
end
section
variable {P : Program} {w : World} {K : PySem.W.Frag} {mg : Str → Option Value} {base : Heap}
variable {t_LETTERS t_LONGEST_NAME : Tok} {a_RESERVED a_BadName a_BadOrder a_ElseputError a_KeyOrder a_UnknownField a_UnknownKey a_UnknownName a_UnknownShape : Addr}
/-! ### an order fits a row -/
theorem drop_upd {H : Hp} {it : Addr} {o : HO} (h : H it = none) : ItX.dropH (upd H it o) it = H := by
  funext b
  unfold ItX.dropH
  by_cases e : b = it
  · simp [e, h]
  · simp [e, upd_ne e]
theorem first_at {z : Str} : ∀ {zs : List Str}, z ∈ zs → ∃ i : Nat, zs[i]? = some z ∧ ∀ j, j < i → zs[j]? ≠ some z
  | y :: r, h => by
    by_cases e : y = z
    · exact ⟨0, by rw [e]; rfl, fun j hj => absurd hj (Nat.not_lt_zero _)⟩
    · have hm : z ∈ r := (List.mem_cons.mp h).resolve_left fun q => e q.symm
      obtain ⟨i, h1, h2⟩ := first_at hm
      refine ⟨i + 1, by rw [List.getElem?_cons_succ]; exact h1, fun j hj => ?_⟩
      cases j with
      | zero => exact fun q => e (Option.some.inj q)
      | succ j =>
        rw [List.getElem?_cons_succ]
        exact h2 j (by omega)
def sp__law_fits (K : PySem.W.Frag) : Sp := fun vs H Q _ => ∃ (a p w : Addr) (zs ns : List Str), vs = [.ref a, .ref p, .ref w] ∧ OrAt K H a zs ∧ H p = some (.lst (zs.map V.str)) ∧ H w = some (.lst (ns.map V.str)) ∧ zs.length ≤ 20 ∧ (∀ z ∈ ns, z.length ≤ 1000 ∧ Asc z) ∧ ∀ H' : Hp, Same H H' → Q (.bl true) H'
theorem len__law_fits {vs : List V} {H : Hp} {Q : VK} {E : XK} (h : sp__law_fits K vs H Q E) : vs.length = 3 := by
  obtain ⟨_, _, _, _, _, rfl, _⟩ := h
  rfl
theorem ok__law_fits {f : Addr} {fd : FuncData} {f__law_same : Addr} {fd__law_same : FuncData} {f__law_rank : Addr} {fd__law_rank : FuncData} {f_KeyOrder___contains__ : Addr} {fd_KeyOrder___contains__ : FuncData} {f_KeyOrder___iter__ : Addr} {f_KeyOrder___len__ : Addr} {fd_KeyOrder___len__ : FuncData} (F : Fun K "_law_fits" "_law_fits" s__law_fits f fd) (T : Gs K mg t_LETTERS t_LONGEST_NAME a_RESERVED a_BadName a_BadOrder a_ElseputError a_KeyOrder a_UnknownField a_UnknownKey a_UnknownName a_UnknownShape) (c__law_same : Cal P w K mg base CX0 6 "_law_same" f__law_same fd__law_same ["_law_actual", "_law_due_here"] (sp__law_same K)) (c__law_rank : Cal P w K mg base CX0 5 "_law_rank" f__law_rank fd__law_rank ["_law_order", "_law_name"] (sp__law_rank K)) (c_KeyOrder___contains__ : CalIn P w K mg base CX0 1 a_KeyOrder f_KeyOrder___contains__ fd_KeyOrder___contains__ ["self", "name"] (sp_KeyOrder___contains__ K)) (c_KeyOrder___iter__ : CalIt P w K mg base CX0 1 a_KeyOrder f_KeyOrder___iter__ (sp_KeyOrder___iter__ K)) (c_KeyOrder___len__ : CalL P w K mg base CX0 1 a_KeyOrder f_KeyOrder___len__ fd_KeyOrder___len__ ["self"] (sp_KeyOrder___len__ K)) : FnOk P w K mg base CX0 8 f fd ["_law_order", "_law_row", "_law_asked"] (sp__law_fits K) := by
  refine F.ok sc__law_fits (fun vs H Q E h => len__law_fits h) (fun cdv A outer s H vs Q E hr h => ?_)
  obtain ⟨a, p, w, zs, ns, rfl, hA, hp, hw, lz, hz, q⟩ := h
  obtain ⟨C, dx, t, hC, ha, ht⟩ := id hA
  cases hC.symm.trans T.n_KeyOrder
  refine ⟨_, (pss_cons (ps_if (PW.pt (pw_or (pt_not (pt_t K (pe_call c__law_same.G (hr.mono (by first | decide | omega)) rfl c__law_same.m c__law_same.kp c__law_same.b .nil pass0 (pa_cons (e_f K (v_ 0)) (pa_cons (pe_callTy (tupleK K) (by rfl) T.z_tuple (by decide +kernel) (pa_cons (v_ 1) pa_nil)) pa_nil))))) (pw_or1 (pt_c (neK K hr.units) (pe_callB (call_lenO c_KeyOrder___len__.le c_KeyOrder___len__.G (hr.mono (by first | decide | omega)) c_KeyOrder___len__.b) (by rfl) T.z_len PySem.boot_len (pa_cons (v_ 0) pa_nil)) (pe_callB (lenK K) (by rfl) T.z_len PySem.boot_len (pa_cons (v_ 1) pa_nil)))))) (pss_one (ps_ret pe_bl)) pss_nil) (pss_cons (ps_if (pt_not (pt_t K (pe_call c__law_same.G (hr.mono (by first | decide | omega)) rfl c__law_same.m c__law_same.kp c__law_same.b .nil pass0 (pa_cons (pe_lc (own := [("_law_name", 3)]) (g := gName 3) (by rfl) sc__law_fits.nd (pi_ownT c_KeyOrder___iter__.oi c_KeyOrder___iter__.F (hr.mono (by first | decide | omega)) pass0 (v_ 0)) (blkOk_by (N := ["_law_order", "_law_row", "_law_asked", "_law_name", "_law_due_here"]) (sc := defScope s__law_fits) (by decide +kernel)) (fun _ _ _ _ _ => pg_name (i := 3) sc__law_fits.nd rfl (Or.inl rfl)) (fun _ _ _ _ _ => pts_nil) (fun _ _ _ _ _ => (v_ 3))) (pa_cons (pe_callTy (listK K) (by rfl) T.z_list (by decide +kernel) (pa_cons (v_ 1) pa_nil)) pa_nil))))) (pss_one (ps_ret pe_bl)) pss_nil) (pss_cons (ps_for PassesOwn.never rfl (pi_list (v_ 2)) (pg_name (i := 3) sc__law_fits.nd rfl (.inl rfl)) (pss_cons (ps_set (i := 4) sc__law_fits.nd rfl (.inl rfl) (pe_tup (pa_cons pe_str (pa_cons (v_ 3) (pa_cons pe_bl (pa_cons pe_bl pa_nil)))))) (Evl.pss_cut (ps_if (pt_c (inK K) (v_ 3) (v_ 1)) (pss_one (ps_set (i := 4) sc__law_fits.nd rfl (.inl rfl) (pe_bm PySem.F.plainAttrs_list PySem.F.slot_list_index PySem.F.type_list_index (mindexK K) (v_ 1) (pa_cons (v_ 3) pa_nil)))) pss_nil) (pss_one (ps_if (PW.pt (pw_or (pt_c (neK K hr.units) (pe_c (op_inO c_KeyOrder___contains__.ic c_KeyOrder___contains__.G (hr.mono (by first | decide | omega)) c_KeyOrder___contains__.b pass0) (v_ 3) (v_ 0)) (pe_c (inK K) (v_ 3) (v_ 1))) (pw_or1 (pt_not (pt_t K (pe_call c__law_same.G (hr.mono (by first | decide | omega)) rfl c__law_same.m c__law_same.kp c__law_same.b .nil pass0 (pa_cons (pe_call c__law_rank.G (hr.mono (by first | decide | omega)) rfl c__law_rank.m c__law_rank.kp c__law_rank.b .nil pass0 (pa_cons (v_ 0) (pa_cons (v_ 3) pa_nil))) (pa_cons (v_ 4) pa_nil)))))))) (pss_one (ps_ret pe_bl)) pss_nil))))) (pss_one (ps_ret pe_bl))))), ?_⟩
  refine ⟨a, a_KeyOrder, dx, _, _, rfl, ha, T.cl_KeyOrder, T.na_KeyOrder_names, rfl, p, _, rfl, .inl ⟨SqL.of hp, fun l nl => ?_⟩⟩
  have s1 := same_new (o := .tup (zs.map V.str)) nl
  refine ⟨_, _, rfl, same_strsT (s1 _ _ ht) upd_same (by omega), ?_⟩
  generalize upd H l (.tup (zs.map V.str)) = H1 at s1 ⊢
  refine ite2 (fun e => nomatch e) (fun _ => ?_)
  refine ⟨a, dx, _, rfl, s1 _ _ ha, a, zs, rfl, hA.same s1, _, rfl, by omega, by omega, ?_⟩
  refine .inl ⟨_, .inl (SqL.of (s1 _ _ hp)), ?_⟩
  refine ite2 (fun e => ?_) (fun _ => ?_)
  · have e : (!decide ((zs.length : Int) = ((zs.map V.str).length : Int))) = true := e
    rw [List.length_map] at e
    simp at e
  refine ⟨a, dx, _, rfl, s1 _ _ ha, fun m hm => ⟨a, zs, rfl, hA.same s1, fun t2 it ht2 nit hit => ⟨t2, it, rfl, upd_same, Nat.le_trans hm hit, ?_⟩⟩⟩
  rw [drop_upd nit]
  intro D nD
  refine lc_it (walk_tup (xs := zs.map V.str)) (fun j H2 => Same H1 H2 ∧ H2 D = some (.lst ((zs.take j).map V.str))) ⟨same_new nD, upd_same⟩ (fun _ _ _ h => SqT.of (h.1 _ _ ht2)) ?_ ?_
  · rintro j v H3 H4 hj ⟨s3, hD⟩ ⟨rfl, hv⟩
    have hv : (zs.map V.str)[j]? = some v := hv
    rw [List.getElem?_map] at hv
    obtain ⟨u, eu, rfl⟩ := Option.map_eq_some_iff.mp hv
    refine ⟨rfl, ?_⟩
    refine ⟨_, hD, line_lt (by rw [List.length_map, List.length_take]; omega), fun b o hb => ?_, ?_⟩
    · rw [upd_ne (ne_of_none hb nD)]
      exact s3 _ _ hb
    · rw [upd_same, take_snoc eu, List.map_append]
      rfl
  rintro H2 ⟨s2, hD⟩
  rw [List.length_map, List.take_length] at hD
  have s12 := s1.trans s2
  refine ⟨p, _, rfl, .inl (SqL.of (s12 _ _ hp)), fun l2 nl2 => ?_⟩
  have s3 := same_new (o := .lst (zs.map V.str)) nl2
  refine ⟨_, _, rfl, same_strsL (s3 _ _ hD) upd_same (by omega), ?_⟩
  have s13 := s12.trans s3
  generalize upd H2 l2 (.lst (zs.map V.str)) = H3 at s13 ⊢
  clear s1 s2 s3 s12 hD nD nl nl2 ht2 nit hit hm
  refine ite2 (fun e => nomatch e) (fun _ => ?_)
  refine ⟨w, rfl, ⟨_, SqL.of (s13 _ _ hw)⟩, ?_⟩
  refine for_list (K := K) (a := w) (xs := ns.map V.str) (fun i σ' H' => (∃ y z, σ' = [some (.ref a), some (.ref p), some (.ref w), y, z]) ∧ Same H3 H') ⟨⟨_, _, rfl⟩, Same.refl _⟩ (fun i σ' H' _ h => SqL.of (h.2 _ _ (s13 _ _ hw))) ?_ ?_
  · rintro i v σ' H4 hi ⟨⟨y, x, rfl⟩, sm⟩
    rw [List.getElem?_map] at hi
    obtain ⟨z, ez, rfl⟩ := Option.map_eq_some_iff.mp hi
    obtain ⟨z1, z2⟩ := hz z (List.mem_of_getElem? ez)
    have s4 := s13.trans sm
    refine ⟨(by show 4 ≤ sizeLine; decide), fun u nu => ?_⟩
    have s5 := same_new (o := .tup [.str "unknown", .str z, .bl true, .bl false]) nu
    have hu : UnkT (upd H4 u (.tup [.str "unknown", .str z, .bl true, .bl false])) u z := upd_same
    have s45 := s4.trans s5
    have s35 := sm.trans s5
    generalize upd H4 u (.tup [.str "unknown", .str z, .bl true, .bl false]) = H5 at s45 s35 hu ⊢
    clear s5 nu
    refine ⟨fun σ' H' => H' = H5 ∧ ∃ d : V, σ' = [some (.ref a), some (.ref p), some (.ref w), some (.str z), some d] ∧ ((∃ i : Nat, d = .int (i : Int) ∧ zs[i]? = some z ∧ ∀ j, j < i → zs[j]? ≠ some z) ∨ (z ∉ zs ∧ d = .ref u)), ?_, ?_⟩
    · refine ⟨_, .inl (SqL.of (s45 _ _ hp)), rfl, flat_strs, ?_⟩
      refine ite2 (fun e => ?_) (fun e => ?_)
      · have e : z ∈ zs := by
          have e : inV (.str z) (zs.map V.str) = true := e
          rw [inV_str] at e
          exact of_decide_eq_true e
        obtain ⟨k, hk, hmin⟩ := first_at e
        refine ⟨.inl ⟨rfl, _, SqL.of (s45 _ _ hp)⟩, p, zs.map V.str, .str z, k, .str z, rfl, rfl, SqL.of (s45 _ _ hp), rfl, flat_strs, ?_, ?_, fun m z' hm ez' => ?_, ?_⟩
        · rw [List.getElem?_map, hk]
          rfl
        · show (z == z) = true
          exact beq_iff_eq.mpr rfl
        · rw [List.getElem?_map] at ez'
          obtain ⟨y', ey', rfl⟩ := Option.map_eq_some_iff.mp ez'
          show (y' == z) = false
          exact beq_eq_false_iff_ne.mpr fun e' => hmin m hm (by rw [ey', e'])
        · exact ⟨rfl, _, rfl, .inl ⟨k, rfl, hk, hmin⟩⟩
      · have e : z ∉ zs := by
          have e : ¬ inV (.str z) (zs.map V.str) = true := e
          rw [inV_str] at e
          simpa using e
        exact ⟨rfl, _, rfl, .inr ⟨e, rfl⟩⟩
    rintro σ' H' ⟨rfl, d, rfl, hd⟩
    refine ⟨a, dx, _, rfl, s45 _ _ ha, a, z, zs, rfl, hA.same s45, _, rfl, ?_⟩
    refine ⟨_, .inl (SqL.of (s45 _ _ hp)), rfl, flat_strs, ?_⟩
    have ei := inV_str (z := z) (xs := zs)
    refine ite2 (fun e => ?_) (fun _ => ?_)
    · exfalso
      have e : (!((false ^^ decide (z ∈ zs)) == inV (.str z) (zs.map V.str))) = true := e
      rw [ei] at e
      simp at e
    refine ⟨a, z, zs, rfl, hA.same s45, lz, z1, z2, fun i H6 e1 e2 s6 => ?_, fun nz H6 t6 s6 hu6 => ?_⟩
    · rcases hd with ⟨k, rfl, hk, hmin⟩ | ⟨nz, rfl⟩
      · have ik : i = k := by
          by_cases h1 : i < k
          · exact absurd e1 (hmin i h1)
          · by_cases h2 : k < i
            · exact absurd hk (e2 k h2)
            · omega
        subst ik
        refine ⟨_, _, rfl, same_int _, ?_⟩
        exact ⟨⟨_, _, rfl⟩, s35.trans s6⟩
      · exact absurd (List.mem_of_getElem? e1) nz
    · rcases hd with ⟨k, rfl, hk, hmin⟩ | ⟨nz, rfl⟩
      · exact absurd (List.mem_of_getElem? hk) nz
      · refine ⟨_, _, rfl, unk_same hu6 (s6 _ _ hu), ?_⟩
        exact ⟨⟨_, _, rfl⟩, s35.trans s6⟩
  · rintro σ' H4 ⟨⟨y, x, rfl⟩, sm⟩
    exact q _ (s13.trans sm)
end
section
variable {P : Program} {w : World} {K : PySem.W.Frag} {mg : Str → Option Value} {base : Heap}
variable {t_LETTERS t_LONGEST_NAME : Tok} {a_RESERVED a_BadName a_BadOrder a_ElseputError a_KeyOrder a_UnknownField a_UnknownKey a_UnknownName a_UnknownShape : Addr}
theorem strs_of : ∀ {xs : List V} {zs : List Str}, (∀ x ∈ xs, x ∈ zs.map V.str) → ∃ ws : List Str, xs = ws.map V.str ∧ ∀ w ∈ ws, w ∈ zs
  | [], _, _ => ⟨[], rfl, fun _ h => nomatch h⟩
  | x :: r, zs, h => by
    obtain ⟨z, hz, rfl⟩ := List.mem_map.mp (h x List.mem_cons_self)
    obtain ⟨ws, rfl, hw⟩ := strs_of (xs := r) (zs := zs) fun y hy => h y (List.mem_cons_of_mem _ hy)
    exact ⟨z :: ws, rfl, fun w hw' => by
      rcases List.mem_cons.mp hw' with rfl | h'
      · exact hz
      · exact hw w h'⟩
theorem nodup_strs {zs : List Str} (h : zs.Nodup) : (zs.map V.str).Nodup := by
  show List.Pairwise (· ≠ ·) _
  rw [List.pairwise_map]
  exact List.Pairwise.imp (fun h e => h (V.str.inj e)) h
theorem nodup_of_strs {zs : List Str} (h : (zs.map V.str).Nodup) : zs.Nodup := by
  have h : List.Pairwise (· ≠ ·) (zs.map V.str) := h
  rw [List.pairwise_map] at h
  exact List.Pairwise.imp (fun h e => h (congrArg V.str e)) h
def spLaw (K : PySem.W.Frag) : Sp := fun vs H Q _ => ∃ (a : Addr) (ns : List Int), vs = [.ref a] ∧ SqL K H a (ns.map V.int) ∧ ns.length ≤ 63 ∧ ∀ H', Q (.bl true) H'
abbrev sp_law := spLaw
theorem len_law {vs : List V} {H : Hp} {Q : VK} {E : XK} (h : sp_law K vs H Q E) : vs.length = 1 := by
  obtain ⟨_, _, rfl, _⟩ := h
  rfl
/-- the objects of an order stand where the state alone changes -/
theorem OrAt.bt {K : PySem.W.Frag} {H H' : Hp} {a st : Addr} {zs : List Str} (h : OrAt K H a zs) (hs : ∃ l, H st = some (.lst l)) (b : Bt st H H') : OrAt K H' a zs := by
  obtain ⟨C, dx, t, h1, h2, h3⟩ := h
  obtain ⟨l, hl⟩ := hs
  exact ⟨C, dx, t, h1, b _ _ (ne_of h2 hl (by intro e; cases e)) h2, b _ _ (ne_of h3 hl (by intro e; cases e)) h3⟩
/-- names as drawn -/
def Nms (zs : List Str) : Prop := ∀ z ∈ zs, isName z = true ∧ z.length ≤ 12
theorem Nms.asc {zs : List Str} (h : Nms zs) : ∀ z ∈ zs, z.length ≤ 1000 ∧ Asc z := fun z hz => ⟨Nat.le_trans (h z hz).2 (by decide), isName_asc (h z hz).1⟩
theorem Nms.bad {zs : List Str} (h : Nms zs) : bad1 zs = none := bad_none fun z hz => (h z hz).1
theorem mk_out {K : PySem.W.Frag} {H : Hp} {x : Addr} {zs : List Str} {Q : VK} {E : XK} (h : Nms zs) (hn : zs.Nodup) (q : ∀ H' : Hp, Same H H' → OrAt K H' x zs → Q .non H') : MkI K H x zs Q E := by
  unfold MkI
  rw [h.bad]
  show if zs.Nodup then _ else _
  rw [if_pos hn]
  exact q
theorem ok_law {f : Addr} {fd : FuncData} {f__law_state : Addr} {fd__law_state : FuncData} {f__law_names : Addr} {fd__law_names : FuncData} {f__law_bad_name : Addr} {fd__law_bad_name : FuncData} {f__law_due : Addr} {fd__law_due : FuncData} {f__law_mixed : Addr} {fd__law_mixed : FuncData} {f__law_sort : Addr} {fd__law_sort : FuncData} {f__law_same : Addr} {fd__law_same : FuncData} {f__law_pick : Addr} {fd__law_pick : FuncData} {f__law_draw : Addr} {fd__law_draw : FuncData} {f__law_fits : Addr} {fd__law_fits : FuncData} {f__law_sort_due : Addr} {fd__law_sort_due : FuncData} {f__law_try : Addr} {fd__law_try : FuncData} {f_KeyOrder___init__ : Addr} {fd_KeyOrder___init__ : FuncData} (F : Fun K "law" "law" s_law f fd) (T : Gs K mg t_LETTERS t_LONGEST_NAME a_RESERVED a_BadName a_BadOrder a_ElseputError a_KeyOrder a_UnknownField a_UnknownKey a_UnknownName a_UnknownShape) (c__law_state : Cal P w K mg base CX0 1 "_law_state" f__law_state fd__law_state ["_law_script"] (sp__law_state K)) (c__law_names : Cal P w K mg base CX0 2 "_law_names" f__law_names fd__law_names ["_law_state_here", "_law_many"] (sp__law_names K)) (c__law_bad_name : Cal P w K mg base CX0 3 "_law_bad_name" f__law_bad_name fd__law_bad_name ["_law_state_here", "_law_good"] (sp__law_bad_name K)) (c__law_due : Cal P w K mg base CX0 1 "_law_due" f__law_due fd__law_due ["_law_row", "_law_names_here"] (sp__law_due K)) (c__law_mixed : Cal P w K mg base CX0 2 "_law_mixed" f__law_mixed fd__law_mixed ["_law_state_here", "_law_row"] (sp__law_mixed K)) (c__law_sort : Cal P w K mg base CX0 4 "_law_sort" f__law_sort fd__law_sort ["_law_order", "_law_row"] (sp__law_sort K)) (c__law_same : Cal P w K mg base CX0 6 "_law_same" f__law_same fd__law_same ["_law_actual", "_law_due_here"] (sp__law_same K)) (c__law_pick : Cal P w K mg base CX0 2 "_law_pick" f__law_pick fd__law_pick ["_law_state_here", "_law_row"] (sp__law_pick K)) (c__law_draw : Cal P w K mg base CX0 1 "_law_draw" f__law_draw fd__law_draw ["_law_state_here", "_law_many"] (sp__law_draw K)) (c__law_fits : Cal P w K mg base CX0 8 "_law_fits" f__law_fits fd__law_fits ["_law_order", "_law_row", "_law_asked"] (sp__law_fits K)) (c__law_sort_due : Cal P w K mg base CX0 1 "_law_sort_due" f__law_sort_due fd__law_sort_due ["_law_row", "_law_wanted"] (sp__law_sort_due K)) (c__law_try : Cal P w K mg base CX0 6 "_law_try" f__law_try fd__law_try ["_law_row"] (sp__law_try K)) (c_KeyOrder___init__ : CalI P w K mg base (L2.CX P w) 4 "KeyOrder" a_KeyOrder f_KeyOrder___init__ fd_KeyOrder___init__ ["self", "names"] (sp_KeyOrder___init__ K)) : FnOk P w K mg base CX0 10 f fd ["_law_script"] (sp_law K) := by
  refine F.ok sc_law (fun vs H Q E h => len_law h) (fun cdv A outer s H vs Q E hr h => ?_)
  obtain ⟨s0, ns0, rfl, hS, hl, q⟩ := h
  refine ⟨_, (pss_cons (ps_set (i := 1) sc_law.nd rfl (.inl rfl) (pe_call c__law_state.G (hr.mono (by first | decide | omega)) rfl c__law_state.m c__law_state.kp c__law_state.b .nil pass0 (pa_cons (v_ 0) pa_nil))) (pss_cons (ps_set (i := 2) sc_law.nd rfl (.inl rfl) (pe_call c__law_names.G (hr.mono (by first | decide | omega)) rfl c__law_names.m c__law_names.kp c__law_names.b .nil pass0 (pa_cons (v_ 1) (pa_cons pe_int pa_nil)))) (pss_cons (ps_set (i := 3) sc_law.nd rfl (.inl rfl) (pe_slice (slK K) (pe_call c__law_mixed.G (hr.mono (by first | decide | omega)) rfl c__law_mixed.m c__law_mixed.kp c__law_mixed.b .nil pass0 (pa_cons (v_ 1) (pa_cons (v_ 2) pa_nil))) po_none (po_some (pe_op op_subM pe_int (pe_call c__law_draw.G (hr.mono (by first | decide | omega)) rfl c__law_draw.m c__law_draw.kp c__law_draw.b .nil pass0 (pa_cons (v_ 1) (pa_cons pe_int pa_nil))))))) (pss_cons (ps_set (i := 4) sc_law.nd rfl (.inl rfl) (pe_call c__law_bad_name.G (hr.mono (by first | decide | omega)) rfl c__law_bad_name.m c__law_bad_name.kp c__law_bad_name.b .nil pass0 (pa_cons (v_ 1) (pa_cons (e_x K (v_ 2) pe_int) pa_nil)))) (pss_cons (ps_set (i := 5) sc_law.nd rfl (.inl rfl) (pe_op (addK K) (v_ 2) (pe_lst (pa_cons (v_ 4) pa_nil)))) (pss_cons (ps_set (i := 6) sc_law.nd rfl (.inl rfl) (pe_callTy (listK K) (by rfl) T.z_list (by decide +kernel) (pa_cons (v_ 3) pa_nil))) (pss_cons (ps_set (i := 7) sc_law.nd rfl (.inl rfl) (pe_make c_KeyOrder___init__.mkc c_KeyOrder___init__.G (hr.mono (by first | decide | omega)) rfl c_KeyOrder___init__.m c_KeyOrder___init__.b .nil passL (pa_cons (v_ 6) pa_nil))) (pss_cons (ps_set (i := 8) sc_law.nd rfl (.inl rfl) (pe_make c_KeyOrder___init__.mkc c_KeyOrder___init__.G (hr.mono (by first | decide | omega)) rfl c_KeyOrder___init__.m c_KeyOrder___init__.b .nil passL (pa_cons (pe_callTy (tupleK K) (by rfl) T.z_tuple (by decide +kernel) (pa_cons (pe_revL (v_ 3)) pa_nil)) pa_nil))) (pss_cons (ps_expr (pe_bm0 PySem.F.plainAttrs_list PySem.F.slot_list_reverse PySem.F.type_list_reverse mt_reverseL (v_ 6))) (pss_cons (ps_expr (pe_bm PySem.F.plainAttrs_list PySem.F.slot_list_append PySem.F.type_list_append mt_append (v_ 6) (pa_cons (v_ 4) pa_nil))) (pss_cons (ps_if (PW.pt (pw_or (pt_not (pt_t K (pe_call c__law_fits.G (hr.mono (by first | decide | omega)) rfl c__law_fits.m c__law_fits.kp c__law_fits.b .nil pass0 (pa_cons (v_ 7) (pa_cons (v_ 3) (pa_cons (v_ 5) pa_nil)))))) (pw_or1 (pt_not (pt_t K (pe_call c__law_fits.G (hr.mono (by first | decide | omega)) rfl c__law_fits.m c__law_fits.kp c__law_fits.b .nil pass0 (pa_cons (v_ 8) (pa_cons (pe_revL (v_ 3)) (pa_cons (v_ 5) pa_nil))))))))) (pss_one (ps_ret pe_bl)) pss_nil) (pss_cons (ps_set (i := 9) sc_law.nd rfl (.inl rfl) (pe_lst pa_nil)) (pss_cons (ps_for PassesOwn.never rfl (pi_range1 rfl T.z_range (pa_cons (pe_op op_subM pe_int (pe_call c__law_draw.G (hr.mono (by first | decide | omega)) rfl c__law_draw.m c__law_draw.kp c__law_draw.b .nil pass0 (pa_cons (v_ 1) (pa_cons pe_int pa_nil)))) pa_nil)) (pg_name (i := 10) sc_law.nd rfl (.inl rfl)) (pss_cons (ps_set (i := 13) sc_law.nd rfl (.inl rfl) (v_ 2)) (Evl.pss_cut (ps_if (PW.pt (pw_and (pt_c op_gtM (pe_callB (lenK K) (by rfl) T.z_len PySem.boot_len (pa_cons (v_ 3) pa_nil)) pe_int) (pw_and1 (pt_c op_ltM (pe_call c__law_draw.G (hr.mono (by first | decide | omega)) rfl c__law_draw.m c__law_draw.kp c__law_draw.b .nil pass0 (pa_cons (v_ 1) (pa_cons pe_int pa_nil))) pe_int)))) (pss_one (ps_set (i := 13) sc_law.nd rfl (.inl rfl) (v_ 3))) pss_nil) (pss_one (ps_expr (pe_bm PySem.F.plainAttrs_list PySem.F.slot_list_append PySem.F.type_list_append mt_append (v_ 9) (pa_cons (pe_call c__law_pick.G (hr.mono (by first | decide | omega)) rfl c__law_pick.m c__law_pick.kp c__law_pick.b .nil pass0 (pa_cons (v_ 1) (pa_cons (v_ 13) pa_nil))) pa_nil))))))) (pss_cons (ps_set (i := 6) sc_law.nd rfl (.inl rfl) (pe_callTy (listK K) (by rfl) T.z_list (by decide +kernel) (pa_cons (v_ 9) pa_nil))) (pss_cons (ps_for PassesOwn.never rfl (pi_range1 rfl T.z_range (pa_cons pe_int pa_nil)) (pg_name (i := 10) sc_law.nd rfl (.inl rfl)) (pss_cons (ps_set (i := 14) sc_law.nd rfl (.inl rfl) (pe_call c__law_sort.G (hr.mono (by first | decide | omega)) rfl c__law_sort.m c__law_sort.kp c__law_sort.b .nil pass0 (pa_cons (v_ 7) (pa_cons (v_ 6) pa_nil)))) (pss_cons (ps_if (PW.pt (pw_or (pt_not (pt_t K (pe_call c__law_same.G (hr.mono (by first | decide | omega)) rfl c__law_same.m c__law_same.kp c__law_same.b .nil pass0 (pa_cons (v_ 14) (pa_cons (pe_call c__law_sort_due.G (hr.mono (by first | decide | omega)) rfl c__law_sort_due.m c__law_sort_due.kp c__law_sort_due.b .nil pass0 (pa_cons (v_ 3) (pa_cons (v_ 9) pa_nil))) pa_nil))))) (pw_or1 (pt_not (pt_t K (pe_call c__law_same.G (hr.mono (by first | decide | omega)) rfl c__law_same.m c__law_same.kp c__law_same.b .nil pass0 (pa_cons (v_ 6) (pa_cons (v_ 9) pa_nil)))))))) (pss_one (ps_ret pe_bl)) pss_nil) (pss_one (ps_if (pt_t K (pe_callB (isiK K) (by rfl) T.z_isinstance (by decide +kernel) (pa_cons (v_ 14) (pa_cons (pe_bltn (v := .ty "list") (u := .type "list") (by rfl) T.z_list (by decide +kernel) rfl) pa_nil)))) (pss_one (ps_expr (pe_bm PySem.F.plainAttrs_list PySem.F.slot_list_append PySem.F.type_list_append mt_append (v_ 14) (pa_cons (v_ 4) pa_nil)))) pss_nil))))) (pss_cons (ps_if (pt_not (pt_t K (pe_call c__law_same.G (hr.mono (by first | decide | omega)) rfl c__law_same.m c__law_same.kp c__law_same.b .nil pass0 (pa_cons (pe_call c__law_sort.G (hr.mono (by first | decide | omega)) rfl c__law_sort.m c__law_sort.kp c__law_sort.b .nil pass0 (pa_cons (v_ 8) (pa_cons (pe_callTy (tupleK K) (by rfl) T.z_tuple (by decide +kernel) (pa_cons (v_ 9) pa_nil)) pa_nil))) (pa_cons (pe_call c__law_sort_due.G (hr.mono (by first | decide | omega)) rfl c__law_sort_due.m c__law_sort_due.kp c__law_sort_due.b .nil pass0 (pa_cons (pe_revL (v_ 3)) (pa_cons (v_ 9) pa_nil))) pa_nil))))) (pss_one (ps_ret pe_bl)) pss_nil) (pss_cons (ps_set (i := 11) sc_law.nd rfl (.inl rfl) (pe_callTy (listK K) (by rfl) T.z_list (by decide +kernel) (pa_cons (v_ 3) pa_nil))) (pss_cons (ps_for PassesOwn.never rfl (pi_range1 rfl T.z_range (pa_cons (pe_op op_subM pe_int (pe_call c__law_draw.G (hr.mono (by first | decide | omega)) rfl c__law_draw.m c__law_draw.kp c__law_draw.b .nil pass0 (pa_cons (v_ 1) (pa_cons pe_int pa_nil)))) pa_nil)) (pg_name (i := 10) sc_law.nd rfl (.inl rfl)) (pss_cons (ps_set (i := 15) sc_law.nd rfl (.inl rfl) (pe_call c__law_pick.G (hr.mono (by first | decide | omega)) rfl c__law_pick.m c__law_pick.kp c__law_pick.b .nil pass0 (pa_cons (v_ 1) (pa_cons (v_ 2) pa_nil)))) (Evl.pss_cut (ps_if (pt_c (eqK K hr.units) (pe_call c__law_draw.G (hr.mono (by first | decide | omega)) rfl c__law_draw.m c__law_draw.kp c__law_draw.b .nil pass0 (pa_cons (v_ 1) (pa_cons pe_int pa_nil))) pe_int) (pss_one (ps_set (i := 15) sc_law.nd rfl (.inl rfl) (pe_call c__law_bad_name.G (hr.mono (by first | decide | omega)) rfl c__law_bad_name.m c__law_bad_name.kp c__law_bad_name.b .nil pass0 (pa_cons (v_ 1) (pa_cons (v_ 15) pa_nil))))) pss_nil) (pss_cons (ps_set (i := 16) sc_law.nd rfl (.inl rfl) (pe_call c__law_draw.G (hr.mono (by first | decide | omega)) rfl c__law_draw.m c__law_draw.kp c__law_draw.b .nil pass0 (pa_cons (v_ 1) (pa_cons (pe_op (addK K) (pe_callB (lenK K) (by rfl) T.z_len PySem.boot_len (pa_cons (v_ 11) pa_nil)) pe_int) pa_nil)))) (pss_one (ps_set (i := 11) sc_law.nd rfl (.inl rfl) (pe_op (addK K) (pe_op (addK K) (pe_slice (slK K) (v_ 11) po_none (po_some (v_ 16))) (pe_lst (pa_cons (v_ 15) pa_nil))) (pe_slice (slK K) (v_ 11) (po_some (v_ 16)) po_none)))))))) (pss_cons (ps_set (i := 12) sc_law.nd rfl (.inl rfl) (pe_call c__law_due.G (hr.mono (by first | decide | omega)) rfl c__law_due.m c__law_due.kp c__law_due.b .nil pass0 (pa_cons (v_ 11) (pa_cons (v_ 2) pa_nil)))) (pss_cons (ps_if (PW.pt (pw_or (pt_not (pt_t K (pe_call c__law_same.G (hr.mono (by first | decide | omega)) rfl c__law_same.m c__law_same.kp c__law_same.b .nil pass0 (pa_cons (pe_call c__law_try.G (hr.mono (by first | decide | omega)) rfl c__law_try.m c__law_try.kp c__law_try.b .nil pass0 (pa_cons (pe_callTy (listK K) (by rfl) T.z_list (by decide +kernel) (pa_cons (v_ 11) pa_nil)) pa_nil)) (pa_cons (v_ 12) pa_nil))))) (pw_or1 (pt_not (pt_t K (pe_call c__law_same.G (hr.mono (by first | decide | omega)) rfl c__law_same.m c__law_same.kp c__law_same.b .nil pass0 (pa_cons (pe_call c__law_try.G (hr.mono (by first | decide | omega)) rfl c__law_try.m c__law_try.kp c__law_try.b .nil pass0 (pa_cons (pe_callTy (tupleK K) (by rfl) T.z_tuple (by decide +kernel) (pa_cons (v_ 11) pa_nil)) pa_nil)) (pa_cons (v_ 12) pa_nil)))))))) (pss_one (ps_ret pe_bl)) pss_nil) (pss_one (ps_ret (pe_andM (pe_call c__law_fits.G (hr.mono (by first | decide | omega)) rfl c__law_fits.m c__law_fits.kp c__law_fits.b .nil pass0 (pa_cons (v_ 7) (pa_cons (v_ 3) (pa_cons (v_ 5) pa_nil)))) (pe_one (pe_call c__law_fits.G (hr.mono (by first | decide | omega)) rfl c__law_fits.m c__law_fits.kp c__law_fits.b .nil pass0 (pa_cons (v_ 8) (pa_cons (pe_revL (v_ 3)) (pa_cons (v_ 5) pa_nil)))))))))))))))))))))))))))), ?_⟩
  refine ⟨s0, ns0, rfl, hS, hl, fun H1 st scr sm fs fc hd => ?_⟩
  refine ⟨st, scr, 8, rfl, hd, by decide, fun H2 N zs b2 hd2 nN hN zl zn znd => ?_⟩
  have Ns : N ≠ st := hd.ne_new nN
  clear b2 hd sm
  refine ⟨st, scr, N, _, rfl, hd2, hN, Ns, by rw [List.length_map]; omega, fun H3 M ys b3 hd3 nM hM hperm => ?_⟩
  obtain ⟨ws, rfl, hws⟩ := strs_of (xs := ys) (zs := zs) fun x hx => hperm.mem_iff.mp hx
  have wl : ws.length = 8 := by
    have := hperm.length_eq
    rw [List.length_map, List.length_map] at this
    omega
  have wnd : ws.Nodup := nodup_of_strs (hperm.nodup_iff.mpr (nodup_strs znd))
  have hN3 := b3 _ _ Ns hN
  have Ms : M ≠ st := hd2.ne_new nM
  clear b3 hd2 hN nN nM hperm
  refine ⟨st, scr, _, rfl, hd3, by decide, many_small (by decide) (by decide), fun r l r0 r1 hd4 => ?_⟩
  have hN4 : (upd H3 st (.lst l)) N = some (.lst (zs.map V.str)) := by rw [upd_ne Ns]; exact hN3
  have hM4 : (upd H3 st (.lst l)) M = some (.lst (ws.map V.str)) := by rw [upd_ne Ms]; exact hM
  generalize upd H3 st (.lst l) = H4 at hN4 hM4 hd4 ⊢
  clear hN3 hM hd3
  refine ⟨6 - r, rfl, .inl ⟨_, SqL.of hM4, fun R nR => ?_⟩⟩
  have eR : cutV (ws.map V.str) none (some (6 - r)) = (ws.take (6 - r).toNat).map V.str := by rw [cutV_take _ (by omega), List.map_take]
  rw [eR]
  have xl : (ws.take (6 - r).toNat).length ≤ 6 := by rw [List.length_take]; omega
  have xn : Nms (ws.take (6 - r).toNat) := fun z hz => zn z (hws z (List.mem_of_mem_take hz))
  have xz : ∀ z ∈ ws.take (6 - r).toNat, z ∈ zs := fun z hz => hws z (List.mem_of_mem_take hz)
  have xnd : (ws.take (6 - r).toNat).Nodup := wnd.sublist (List.take_sublist _ _)
  generalize ws.take (6 - r).toNat = xs at xl xn xz xnd ⊢
  have Rs : R ≠ st := hd4.ne_new nR
  have s5 := same_new (o := .lst (xs.map V.str)) nR
  have hR5 : (upd H4 R (.lst (xs.map V.str))) R = some (.lst (xs.map V.str)) := upd_same
  have hN5 := s5 _ _ hN4
  have hd5 := hd4.new s5
  generalize upd H4 R (.lst (xs.map V.str)) = H5 at hR5 hN5 hd5 ⊢
  clear eR hM4 hN4 hd4 s5 nR wnd hws wl Ms
  obtain ⟨z0, ez0⟩ : ∃ z0, zs[0]? = some z0 := ⟨_, List.getElem?_eq_getElem (by omega)⟩
  refine ⟨_, .inl (SqL.of hN5), .str z0, atI_nat (j := 0) (by rw [List.getElem?_map, ez0]; rfl), ?_⟩
  refine ⟨st, scr, z0, rfl, hd5, (zn z0 (List.mem_of_getElem? ez0)).1, fun H6 bad b6 hd6 nb lb ab => ?_⟩
  have hR6 := b6 _ _ Rs hR5
  have hN6 := b6 _ _ Ns hN5
  clear b6 hR5 hN5 hd5
  refine ⟨(by show 1 ≤ sizeLine; decide), fun u nu => ?_⟩
  have su := same_new (o := .lst [.str bad]) nu
  refine .inl ⟨_, _, su _ _ hN6, upd_same, line_of (by rw [List.length_map, zl]; show 8 + 1 ≤ 100000; decide), fun A nA => ?_⟩
  have eA : zs.map V.str ++ [V.str bad] = (zs ++ [bad]).map V.str := by rw [List.map_append]; rfl
  rw [eA]
  have sA := su.trans (same_new (o := .lst ((zs ++ [bad]).map V.str)) nA)
  generalize hH7 : upd _ A _ = H7 at sA
  have hA7 : H7 A = some (.lst ((zs ++ [bad]).map V.str)) := by rw [← hH7]; exact upd_same
  have As : A ≠ st := (hd6.new su).ne_new nA
  have hR7 := sA _ _ hR6
  have hN7 := sA _ _ hN6
  have hd7 := hd6.new sA
  clear hH7 eA su nu nA sA hR6 hN6 hd6
  have asc : ∀ z ∈ zs ++ [bad], z.length ≤ 1000 ∧ Asc z := fun z hz => by
    rcases List.mem_append.mp hz with h | h
    · exact Nms.asc zn z h
    · rw [List.mem_singleton.mp h]
      exact ⟨by omega, ab⟩
  refine ⟨R, _, rfl, .inl (SqL.of hR7), fun h nh => ?_⟩
  have sh := same_new (o := .lst (xs.map V.str)) nh
  have hh8 : (upd H7 h (.lst (xs.map V.str))) h = some (.lst (xs.map V.str)) := upd_same
  have hR8 := sh _ _ hR7
  have hN8 := sh _ _ hN7
  have hA8 := sh _ _ hA7
  have hd8 := hd7.new sh
  have hs : h ≠ st := hd7.ne_new nh
  have hc : h ≠ scr := hd7.ne_scr nh
  have Rh : R ≠ h := ne_of_none hR7 nh
  have Nh : N ≠ h := ne_of_none hN7 nh
  have Ah : A ≠ h := ne_of_none hA7 nh
  generalize upd H7 h (.lst (xs.map V.str)) = H8 at hh8 hR8 hN8 hA8 hd8 ⊢
  clear sh nh hR7 hN7 hA7 hd7
  intro a da na nda nea
  refine ⟨a, h, a_KeyOrder, da, xs, rfl, T.n_KeyOrder, upd_same, .inl (same_mk na nda _ _ hh8), by omega, Nms.asc xn, inits_of T.n_KeyOrder na nda (mk_out xn xnd fun H9 s9 hO9 => ⟨rfl, ?_⟩)⟩
  refine ⟨R, _, rfl, SqL.of (s9 _ _ hR8), fun v nv => ⟨v, _, rfl, .inl ⟨SqL.of upd_same, fun l nl => ?_⟩⟩⟩
  have sl := (same_new (o := .lst (xs.map V.str).reverse) nv).trans (same_new (o := .tup (xs.map V.str).reverse) nl)
  have hl0 : (upd (upd H9 v (.lst (xs.map V.str).reverse)) l (.tup (xs.map V.str).reverse)) l = some (.tup (xs.reverse.map V.str)) := by rw [upd_same, List.map_reverse]
  have s10 := s9.trans sl
  have hO10 := hO9.same sl
  generalize upd (upd H9 v (.lst (xs.map V.str).reverse)) l (.tup (xs.map V.str).reverse) = H10 at hl0 s10 hO10 ⊢
  clear sl nl nv s9 hO9 na nda nea
  have yn : Nms xs.reverse := fun z hz => xn z (List.mem_reverse.mp hz)
  have ynd : xs.reverse.Nodup := (List.reverse_perm xs).nodup_iff.mpr xnd
  have yl : xs.reverse.length ≤ 6 := by rw [List.length_reverse]; exact xl
  intro b db nb' ndb neb
  refine ⟨b, l, a_KeyOrder, db, xs.reverse, rfl, T.n_KeyOrder, upd_same, .inr (same_mk nb' ndb _ _ hl0), by omega, Nms.asc yn, inits_of T.n_KeyOrder nb' ndb (mk_out yn ynd fun H11 s11 hB11 => ⟨rfl, ?_⟩)⟩
  have sx := s10.trans s11
  have hO11 := hO10.same s11
  have hh11 := sx _ _ hh8
  have hR11 := sx _ _ hR8
  have hN11 := sx _ _ hN8
  have hA11 := sx _ _ hA8
  have hd11 := hd8.new sx
  clear sx s10 s11 hO10 hl0 nb' ndb neb hh8 hR8 hN8 hA8 hd8
  refine ⟨.inl ⟨rfl, _, SqL.of hh11⟩, h, _, rfl, rfl, hh11, ?_⟩
  refine ⟨.inl ⟨rfl, _, SqL.of upd_same⟩, h, _, .str bad, rfl, rfl, upd_same, line_lt (by rw [List.length_reverse, List.length_map]; omega), ?_⟩
  rw [upd_upd]
  generalize hH12 : upd H11 h _ = H12
  have b12 : Bt h H11 H12 := by rw [← hH12]; exact Bt.st
  have hh : ∃ l, H11 h = some (.lst l) := ⟨_, hh11⟩
  have hO := hO11.bt hh b12
  have hB := hB11.bt hh b12
  have hR := b12 _ _ Rh hR11
  have hN := b12 _ _ Nh hN11
  have hA := b12 _ _ Ah hA11
  have hd : DrAt H12 st scr := by rw [← hH12]; exact hd11.at hs hc
  clear hH12 b12 hh hO11 hB11 hR11 hN11 hA11 hd11 hh11
  refine ⟨a, R, A, xs, zs ++ [bad], rfl, hO, hR, hA, by omega, asc, fun H13 s13 => ?_⟩
  refine ite2 (fun e => nomatch e) (fun _ => ?_)
  refine ⟨R, _, rfl, SqL.of (s13 _ _ hR), fun v nv => ?_⟩
  have sv := same_new (o := .lst (xs.map V.str).reverse) nv
  have hv : (upd H13 v (.lst (xs.map V.str).reverse)) v = some (.lst (xs.reverse.map V.str)) := by rw [upd_same, List.map_reverse]
  refine ⟨b, v, A, xs.reverse, zs ++ [bad], rfl, hB.same (s13.trans sv), hv, sv _ _ (s13 _ _ hA), by omega, asc, fun H14 s14 => ?_⟩
  have sx := (s13.trans sv).trans s14
  refine ite2 (fun e => nomatch e) (fun _ => ?_)
  replace hO := hO.same sx
  replace hB := hB.same sx
  replace hR := sx _ _ hR
  replace hN := sx _ _ hN
  replace hA := sx _ _ hA
  replace hd := hd.new sx
  clear sx s13 s14 sv hv nv
  refine ⟨Nat.zero_le _, fun W nW => ?_⟩
  have sW := same_new (o := .lst []) nW
  have Ws : W ≠ st := hd.ne_new nW
  have Wc : W ≠ scr := hd.ne_scr nW
  have hdW := hd.new sW
  refine ⟨st, scr, _, rfl, hdW, by decide, many_small (by decide) (by decide), fun r2 l2 r20 r21 hd15 => ?_⟩
  have b15 : Bt st H14 (upd (upd H14 W (.lst [])) st (.lst l2)) := (Bt.same sW).trans Bt.st
  have hW15 : (upd (upd H14 W (.lst [])) st (.lst l2)) W = some (.lst (([] : List Str).map V.str)) := by rw [upd_ne Ws, upd_same]; rfl
  generalize upd (upd H14 W (.lst [])) st (.lst l2) = H15 at hd15 b15 hW15 ⊢
  clear hdW sW
  refine ⟨6 - r2, rfl, by omega, by omega, ?_⟩
  obtain ⟨m, hm⟩ : ∃ m : Nat, 6 - r2 = (m : Int) := ⟨(6 - r2).toNat, by omega⟩
  have m6 : m ≤ 6 := by omega
  rw [hm]
  clear hm r20 r21
  have hd14 := hd
  clear hd
  refine for_range (lo := 0) (n := m) (fun i σ' H' => (∃ (y z : Option V), σ' = [some (.ref s0), some (.ref st), some (.ref N), some (.ref R), some (.str bad), some (.ref A), some (.ref h), some (.ref a), some (.ref b), some (.ref W), y, none, none, z, none, none, none]) ∧ Bt st H14 H' ∧ DrAt H' st scr ∧ ∃ us : List Str, H' W = some (.lst (us.map V.str)) ∧ us.length ≤ i ∧ ∀ z ∈ us, z ∈ zs) ⟨⟨_, _, rfl⟩, b15, hd15, [], hW15, Nat.le_refl _, fun _ h => nomatch h⟩ ?_ ?_
  · rintro i σ' H' hi ⟨⟨y, z, rfl⟩, bt, hd', us, hW, lu, hu⟩
    have hRi := bt _ _ Rs hR
    refine ⟨fun σ2 H2 => (∃ (S : Addr) (ps : List Str), σ2 = [some (.ref s0), some (.ref st), some (.ref N), some (.ref R), some (.str bad), some (.ref A), some (.ref h), some (.ref a), some (.ref b), some (.ref W), some (.int (0 + i)), none, none, some (.ref S), none, none, none] ∧ H14 S = some (.lst (ps.map V.str)) ∧ S ≠ st ∧ 0 < ps.length ∧ ps.length ≤ 8 ∧ ∀ z ∈ ps, z ∈ zs) ∧ Bt st H14 H2 ∧ DrAt H2 st scr ∧ H2 W = some (.lst (us.map V.str)), ?_, ?_⟩
    · refine .inl ⟨_, .inl (SqL.of hRi), ?_⟩
      refine ite2 (fun e => ?_) (fun e => ?_)
      · have e : (0 : Int) < ((xs.map V.str).length : Int) := of_decide_eq_true e
        rw [List.length_map] at e
        refine ⟨st, scr, _, rfl, hd', by decide, many_small (by decide) (by decide), fun r3 l3 r30 r31 hd3 => ?_⟩
        have b3 := bt.trans (Bt.st (o := .lst l3))
        have hW3 : (upd H' st (.lst l3)) W = some (.lst (us.map V.str)) := by rw [upd_ne Ws]; exact hW
        refine ite2 (fun e2 => ?_) (fun e2 => ?_)
        · exact ⟨⟨R, xs, rfl, hR, Rs, by omega, by omega, xz⟩, b3, hd3, hW3⟩
        · exact ⟨⟨N, zs, rfl, hN, Ns, by omega, by omega, fun z h => h⟩, b3, hd3, hW3⟩
      · exact ⟨⟨N, zs, rfl, hN, Ns, by omega, by omega, fun z h => h⟩, bt, hd', hW⟩
    rintro σ2 H2 ⟨⟨S, ps, rfl, hS, Ss, p0, p8, pz⟩, b2, hd2, hW2⟩
    refine ⟨.inl ⟨rfl, _, SqL.of hW2⟩, ?_⟩
    refine ⟨st, scr, _, rfl, hd2, .inr ⟨S, _, rfl, b2 _ _ Ss hS, Ss, by rw [List.length_map]; exact p0, by rw [List.length_map]; omega, fun x l hx hd3 => ?_⟩⟩
    obtain ⟨u, hu', rfl⟩ := List.mem_map.mp hx
    refine ⟨W, _, .str u, rfl, rfl, (by rw [upd_ne Ws]; exact hW2), line_lt (by rw [List.length_map]; omega), ?_⟩
    refine ⟨⟨_, _, rfl⟩, fun c o nc hc => ?_, hd3.at Ws Wc, us ++ [u], by rw [upd_same, List.map_append]; rfl, by rw [List.length_append, List.length_singleton]; omega, fun z hz => ?_⟩
    · rw [upd_ne (ne_of_none hc nW), upd_ne nc]
      exact b2 c o nc hc
    · rcases List.mem_append.mp hz with h | h
      · exact hu z h
      · rw [List.mem_singleton.mp h]
        exact pz u hu'
  rintro σ' H16 ⟨⟨y, z, rfl⟩, b16, hd16, us, hW16, lu, hu⟩
  have hs14 : ∃ l, H14 st = some (.lst l) := hd14.lst
  have hO := hO.bt hs14 b16
  have hB := hB.bt hs14 b16
  have hR := b16 _ _ Rs hR
  have hN := b16 _ _ Ns hN
  have hA := b16 _ _ As hA
  have lu : us.length ≤ 6 := by omega
  have un : Nms us := fun z hz => zn z (hu z hz)
  have br : ∀ ts : List Str, ts.length ≤ 6 → (byRank ts us).length ≤ 1000 := fun ts ht => by
    have h1 : (byRank ts us).length ≤ ts.length * 6 := fm_len fun y => Nat.le_trans (List.length_filter_le _ _) lu
    omega
  clear b16 hs14 hd14 hd15 b15 hW15 nW m6
  refine ⟨W, _, rfl, .inl (SqL.of hW16), fun g ng => ?_⟩
  have sg := same_new (o := .lst (us.map V.str)) ng
  have hg : (upd H16 g (.lst (us.map V.str))) g = some (.lst (us.map V.str)) := upd_same
  replace hO := hO.same sg
  replace hB := hB.same sg
  replace hR := sg _ _ hR
  replace hN := sg _ _ hN
  replace hA := sg _ _ hA
  have hW := sg _ _ hW16
  replace hd := hd16.new sg
  generalize upd H16 g (.lst (us.map V.str)) = H17 at hg hO hB hR hN hA hW hd ⊢
  clear sg ng hd16 hW16
  refine ⟨2, rfl, by decide, by decide, ?_⟩
  refine for_range (lo := 0) (n := 2) (fun i σ' H' => (∃ (x y w : Option V), σ' = [some (.ref s0), some (.ref st), some (.ref N), some (.ref R), some (.str bad), some (.ref A), some (.ref g), some (.ref a), some (.ref b), some (.ref W), x, none, none, y, w, none, none]) ∧ Same H17 H') ⟨⟨_, _, _, rfl⟩, Same.refl _⟩ ?_ ?_
  · rintro i σ' H18 hi ⟨⟨x, y, w, rfl⟩, sm⟩
    refine ⟨a, g, xs, us, rfl, hO.same sm, .inl (sm _ _ hg), by omega, by omega, un.asc, fun H19 D s19 nD hD => ?_⟩
    have s9 := sm.trans s19
    refine ⟨R, W, xs, us, rfl, s9 _ _ hR, s9 _ _ hW, by omega, by omega, fun H20 D2 s20 hD2 => ?_⟩
    have s10 := s9.trans s20
    refine ⟨_, _, rfl, sort_same (br xs xl) (hD.same s20) hD2, ?_⟩
    refine ite2 (fun e => nomatch e) (fun _ => ?_)
    refine ⟨_, _, rfl, same_strsL (s10 _ _ hg) (s10 _ _ hW) (by omega), ?_⟩
    refine ite2 (fun e => nomatch e) (fun _ => ?_)
    have hDs := hD.same s20
    have keep : ∀ o : HO, Same H17 (upd H20 D o) := fun o c u hc => by
      rw [upd_ne (ne_of_none (sm _ _ hc) nD)]
      exact s10 _ _ hc
    unfold SortAt at hDs
    cases he : us.find? (fun z => decide (z ∉ xs)) with
    | none =>
      rw [he] at hDs
      obtain ⟨D', eD, hDl⟩ := hDs
      cases eD
      refine ⟨_, _, _, _, true, rfl, .ty _, .base (.lst hDl), kit_ty (by decide +kernel), ?_⟩
      have := br xs xl
      refine ⟨.inl ⟨rfl, _, SqL.of hDl⟩, D, _, .str bad, rfl, rfl, hDl, line_lt (by rw [List.length_map]; omega), ?_⟩
      exact ⟨⟨_, _, _, rfl⟩, keep _⟩
    | some z =>
      rw [he] at hDs
      obtain ⟨D', eD, hDl⟩ := hDs
      cases eD
      refine ⟨_, _, _, _, false, rfl, .ty _, .base (.tup hDl), kit_ty (by decide +kernel), ?_⟩
      exact ⟨⟨_, _, _, rfl⟩, s10⟩
  rintro σ' H18 ⟨⟨x, y, w, rfl⟩, sm⟩
  refine ⟨W, _, rfl, .inl ⟨SqL.of (sm _ _ hW), fun l nl => ?_⟩⟩
  have sl := sm.trans (same_new (o := .tup (us.map V.str)) nl)
  refine ⟨b, l, xs.reverse, us, rfl, hB.same sl, .inr upd_same, by omega, by omega, un.asc, fun H19 D s19 nD hD => ?_⟩
  have s9 := sl.trans s19
  refine ⟨R, _, rfl, SqL.of (s9 _ _ hR), fun v nv => ?_⟩
  have sv := same_new (o := .lst (xs.map V.str).reverse) nv
  have hv : (upd H19 v (.lst (xs.map V.str).reverse)) v = some (.lst (xs.reverse.map V.str)) := by rw [upd_same, List.map_reverse]
  have s10 := s9.trans sv
  refine ⟨v, W, xs.reverse, us, rfl, hv, s10 _ _ hW, by omega, by omega, fun H20 D2 s20 hD2 => ?_⟩
  refine ⟨_, _, rfl, sort_same (br xs.reverse yl) (hD.same (sv.trans s20)) hD2, ?_⟩
  refine ite2 (fun e => nomatch e) (fun _ => ?_)
  have sx := s10.trans s20
  replace hO := hO.same sx
  replace hB := hB.same sx
  replace hR := sx _ _ hR
  replace hN := sx _ _ hN
  replace hA := sx _ _ hA
  replace hd := hd.new sx
  clear sx s10 s20 sv hv nv s9 s19 sl nl sm hW hg hD hD2 nD
  refine ⟨R, _, rfl, .inl (SqL.of hR), fun L nL => ?_⟩
  have sL := same_new (o := .lst (xs.map V.str)) nL
  have Ls : L ≠ st := hd.ne_new nL
  have hL : (upd H20 L (.lst (xs.map V.str))) L = some (.lst (xs.map V.str)) := upd_same
  replace hO := hO.same sL
  replace hB := hB.same sL
  replace hR := sL _ _ hR
  replace hN := sL _ _ hN
  replace hA := sL _ _ hA
  replace hd := hd.new sL
  generalize upd H20 L (.lst (xs.map V.str)) = H21 at hL hO hB hR hN hA hd ⊢
  clear sL nL
  refine ⟨st, scr, _, rfl, hd, by decide, many_small (by decide) (by decide), fun r4 l4 r40 r41 hd22 => ?_⟩
  have b22 : Bt st H21 (upd H21 st (.lst l4)) := Bt.st
  have hL22 : (upd H21 st (.lst l4)) L = some (.lst (xs.map V.str)) := by rw [upd_ne Ls]; exact hL
  generalize upd H21 st (.lst l4) = H22 at hd22 b22 hL22 ⊢
  refine ⟨2 - r4, rfl, by omega, by omega, ?_⟩
  obtain ⟨m2, hm2⟩ : ∃ m2 : Nat, 2 - r4 = (m2 : Int) := ⟨(2 - r4).toNat, by omega⟩
  have m22 : m2 ≤ 2 := by omega
  rw [hm2]
  clear hm2 r40 r41
  have hd21 := hd
  clear hd
  have inn : ∀ z ∈ zs, (isName z = true ↔ z ∈ zs) ∧ z.length ≤ 1000 ∧ Asc z := fun z hz => ⟨⟨fun _ => hz, fun _ => (zn z hz).1⟩, Nms.asc zn z hz⟩
  refine for_range (lo := 0) (n := m2) (fun i σ' H' => (∃ (x p w u : Option V) (L : Addr) (ls : List Str), σ' = [some (.ref s0), some (.ref st), some (.ref N), some (.ref R), some (.str bad), some (.ref A), some (.ref g), some (.ref a), some (.ref b), some (.ref W), x, some (.ref L), none, y, w, p, u] ∧ L ≠ st ∧ H' L = some (.lst (ls.map V.str)) ∧ ls.length ≤ 6 + i ∧ ∀ z ∈ ls, (isName z = true ↔ z ∈ zs) ∧ z.length ≤ 1000 ∧ Asc z) ∧ Bt st H21 H' ∧ DrAt H' st scr) ⟨⟨_, _, _, _, L, xs, rfl, Ls, hL22, by omega, fun z hz => inn z (xz z hz)⟩, b22, hd22⟩ ?_ ?_
  · clear hL Ls hL22 b22 hd22
    rintro i σ' H23 hi ⟨⟨x, p, w, u, L, ls, rfl, Ls, hL, ll, hls⟩, bt, hd⟩
    refine ⟨st, scr, _, rfl, hd, .inr ⟨N, _, rfl, bt _ _ Ns hN, Ns, by rw [List.length_map]; omega, by rw [List.length_map]; omega, fun x5 l5 hx5 hd5 => ?_⟩⟩
    obtain ⟨it, hit, rfl⟩ := List.mem_map.mp hx5
    have b5 := bt.trans (Bt.st (o := .lst l5))
    have hL5 : (upd H23 st (.lst l5)) L = some (.lst (ls.map V.str)) := by rw [upd_ne Ls]; exact hL
    generalize upd H23 st (.lst l5) = H24 at hd5 b5 hL5 ⊢
    clear hx5 bt hd hL
    refine ⟨fun σ2 H2 => (∃ t : Str, σ2 = [some (.ref s0), some (.ref st), some (.ref N), some (.ref R), some (.str bad), some (.ref A), some (.ref g), some (.ref a), some (.ref b), some (.ref W), some (.int (0 + i)), some (.ref L), none, y, w, some (.str t), u] ∧ (isName t = true ↔ t ∈ zs) ∧ t.length ≤ 1000 ∧ Asc t) ∧ Bt st H21 H2 ∧ DrAt H2 st scr ∧ H2 L = some (.lst (ls.map V.str)), ?_, ?_⟩
    · refine ⟨st, scr, _, rfl, hd5, by decide, many_small (by decide) (by decide), fun r6 l6 r60 r61 hd6 => ?_⟩
      have b6 := b5.trans (Bt.st (o := .lst l6))
      have hL6 : (upd H24 st (.lst l6)) L = some (.lst (ls.map V.str)) := by rw [upd_ne Ls]; exact hL5
      generalize upd H24 st (.lst l6) = H25 at hd6 b6 hL6 ⊢
      refine ite2 (fun e => ?_) (fun e => ?_)
      · refine ⟨st, scr, it, rfl, hd6, (zn it hit).1, fun H26 bw b7 hd7 nbw lbw abw => ?_⟩
        refine ⟨⟨bw, rfl, ⟨fun h => ?_, fun h => ?_⟩, by omega, abw⟩, b6.trans b7, hd7, b7 _ _ Ls hL6⟩
        · rw [nbw] at h
          cases h
        · exact (zn bw h).1
      · exact ⟨⟨it, rfl, (inn it hit).1, (inn it hit).2.1, (inn it hit).2.2⟩, b6, hd6, hL6⟩
    rintro σ2 H25 ⟨⟨tx, rfl, ht1, ht2, ht3⟩, b6, hd6, hL6⟩
    refine .inl ⟨_, .inl (SqL.of hL6), ?_⟩
    rw [List.length_map]
    refine ⟨st, scr, _, rfl, hd6, by omega, many_small (by omega) (by omega), fun at_ l7 a0 a1 hd7 => ?_⟩
    have b7 := b6.trans (Bt.st (o := .lst l7))
    have hL7 : (upd H25 st (.lst l7)) L = some (.lst (ls.map V.str)) := by rw [upd_ne Ls]; exact hL6
    generalize upd H25 st (.lst l7) = H26 at hd7 b7 hL7 ⊢
    refine ⟨at_, rfl, .inl ⟨_, SqL.of hL7, fun p1 n1 => ?_⟩⟩
    have e1 : cutV (ls.map V.str) none (some at_) = (ls.take at_.toNat).map V.str := by rw [cutV_take _ a0, List.map_take]
    have e2 : cutV (ls.map V.str) (some at_) none = (ls.drop at_.toNat).map V.str := by rw [cutV_drop _ a0, List.map_drop]
    rw [e1]
    have q1 := same_new (o := .lst ((ls.take at_.toNat).map V.str)) n1
    refine ⟨(by show 1 ≤ sizeLine; decide), fun p2 n2 => ?_⟩
    have q2 := same_new (o := .lst [.str tx]) n2
    refine .inl ⟨_, _, q2 _ _ upd_same, upd_same, line_of (by rw [List.length_map, List.length_take, List.length_singleton]; omega), fun p3 n3 => ?_⟩
    have q3 := same_new (o := .lst ((ls.take at_.toNat).map V.str ++ [.str tx])) n3
    have q13 := (q1.trans q2).trans q3
    refine ⟨at_, rfl, .inl ⟨_, SqL.of (q13 _ _ hL7), fun p4 n4 => ?_⟩⟩
    rw [e2]
    have q4 := same_new (o := .lst ((ls.drop at_.toNat).map V.str)) n4
    refine .inl ⟨_, _, q4 _ _ upd_same, upd_same, line_of (by rw [List.length_append, List.length_map, List.length_map, List.length_take, List.length_drop, List.length_singleton]; omega), fun p5 n5 => ?_⟩
    have q5 := same_new (o := .lst ((ls.take at_.toNat).map V.str ++ [.str tx] ++ (ls.drop at_.toNat).map V.str)) n5
    have q15 := (q13.trans q4).trans q5
    have n5' := Same.free (q13.trans q4) n5
    refine ⟨⟨_, _, _, _, p5, ls.take at_.toNat ++ [tx] ++ ls.drop at_.toNat, rfl, hd7.ne_new n5', ?_, ?_, fun z hz => ?_⟩, b7.trans (Bt.same q15), hd7.new q15⟩
    · rw [upd_same, List.map_append, List.map_append]
      rfl
    · rw [List.length_append, List.length_append, List.length_take, List.length_drop, List.length_singleton]
      omega
    · rcases List.mem_append.mp hz with h | h
      · rcases List.mem_append.mp h with h | h
        · exact hls z (List.mem_of_mem_take h)
        · rw [List.mem_singleton.mp h]
          exact ⟨ht1, ht2, ht3⟩
      · exact hls z (List.mem_of_mem_drop h)
  rintro σ' H23 ⟨⟨x, p, w, u, L, ls, rfl, Ls, hL, ll, hls⟩, bt, hd⟩
  have hs21 : ∃ l, H21 st = some (.lst l) := hd21.lst
  replace hO := hO.bt hs21 bt
  replace hB := hB.bt hs21 bt
  replace hR := bt _ _ Rs hR
  replace hN := bt _ _ Ns hN
  replace hA := bt _ _ As hA
  have l20 : ls.length ≤ 20 := by omega
  refine ⟨L, N, ls, zs, rfl, hL, hN, l20, fun z hz => (hls z hz).1, fun H24 t s24 hT => ?_⟩
  have lasc : ∀ z ∈ ls, z.length ≤ 1000 ∧ Asc z := fun z hz => (hls z hz).2
  refine ⟨L, _, rfl, .inl (SqL.of (s24 _ _ hL)), fun l1 nl1 => ?_⟩
  have s25 := same_new (o := .lst (ls.map V.str)) nl1
  refine ⟨l1, ls, rfl, .inl upd_same, l20, lasc, fun H26 t2 s26 hT2 => ?_⟩
  have s27 := s25.trans s26
  refine ⟨_, _, rfl, try_same (by omega) hT2 (hT.same s27), ?_⟩
  refine ite2 (fun e => nomatch e) (fun _ => ?_)
  have s28 := s24.trans s27
  refine ⟨L, _, rfl, .inl ⟨SqL.of (s28 _ _ hL), fun l2 nl2 => ?_⟩⟩
  have s29 := same_new (o := .tup (ls.map V.str)) nl2
  refine ⟨l2, ls, rfl, .inr upd_same, l20, lasc, fun H30 t3 s30 hT3 => ?_⟩
  have s31 := (s27.trans s29).trans s30
  refine ⟨_, _, rfl, try_same (by omega) hT3 (hT.same s31), ?_⟩
  refine ite2 (fun e => nomatch e) (fun _ => ?_)
  have s32 := s24.trans s31
  refine ⟨a, R, A, xs, zs ++ [bad], rfl, hO.same s32, s32 _ _ hR, s32 _ _ hA, by omega, asc, fun H33 s33 => ?_⟩
  have s34 := s32.trans s33
  refine ⟨R, _, rfl, SqL.of (s34 _ _ hR), fun v nv => ?_⟩
  have sv := same_new (o := .lst (xs.map V.str).reverse) nv
  have hv : (upd H33 v (.lst (xs.map V.str).reverse)) v = some (.lst (xs.reverse.map V.str)) := by rw [upd_same, List.map_reverse]
  refine ⟨b, v, A, xs.reverse, zs ++ [bad], rfl, hB.same (s34.trans sv), hv, sv _ _ (s34 _ _ hA), by omega, asc, fun H35 s35 => ?_⟩
  exact q _
end
theorem all_mk {l : PySem.W.OpenLaw} {w : World} {K : PySem.W.Frag} {h : Heap} {mg : Str → Option Value} {fa : Addr} {t_LETTERS t_LONGEST_NAME : Tok} {a_RESERVED a_BadName a_BadOrder a_ElseputError a_KeyOrder a_UnknownField a_UnknownKey a_UnknownName a_UnknownShape : Addr} {f_is_name f_check_name f__law_state f__law_draw f__law_pick f__law_mixed f__law_names f__law_is_int f__law_same f__law_bad_name f_KeyOrder___init__ f__law_try f__law_due f_KeyOrder___getitem__ f__law_rank f_KeyOrder___call__ f__law_sort f__law_sort_due f_KeyOrder___contains__ f_KeyOrder___iter__ f_KeyOrder___len__ f__law_fits f_law : Addr} {od_is_name an_is_name : Option Addr} {sl_is_name : Array (Option Value)} {oc_is_name kV_is_name dc_is_name pm_is_name cd_is_name ct_is_name : Value} {od_check_name an_check_name : Option Addr} {sl_check_name : Array (Option Value)} {oc_check_name kV_check_name dc_check_name pm_check_name cd_check_name ct_check_name : Value} {od__law_state an__law_state : Option Addr} {sl__law_state : Array (Option Value)} {oc__law_state kV__law_state dc__law_state pm__law_state cd__law_state ct__law_state : Value} {od__law_draw an__law_draw : Option Addr} {sl__law_draw : Array (Option Value)} {oc__law_draw kV__law_draw dc__law_draw pm__law_draw cd__law_draw ct__law_draw : Value} {od__law_pick an__law_pick : Option Addr} {sl__law_pick : Array (Option Value)} {oc__law_pick kV__law_pick dc__law_pick pm__law_pick cd__law_pick ct__law_pick : Value} {od__law_mixed an__law_mixed : Option Addr} {sl__law_mixed : Array (Option Value)} {oc__law_mixed kV__law_mixed dc__law_mixed pm__law_mixed cd__law_mixed ct__law_mixed : Value} {od__law_names an__law_names : Option Addr} {sl__law_names : Array (Option Value)} {oc__law_names kV__law_names dc__law_names pm__law_names cd__law_names ct__law_names : Value} {od__law_is_int an__law_is_int : Option Addr} {sl__law_is_int : Array (Option Value)} {oc__law_is_int kV__law_is_int dc__law_is_int pm__law_is_int cd__law_is_int ct__law_is_int : Value} {od__law_same an__law_same : Option Addr} {sl__law_same : Array (Option Value)} {oc__law_same kV__law_same dc__law_same pm__law_same cd__law_same ct__law_same : Value} {od__law_bad_name an__law_bad_name : Option Addr} {sl__law_bad_name : Array (Option Value)} {oc__law_bad_name kV__law_bad_name dc__law_bad_name pm__law_bad_name cd__law_bad_name ct__law_bad_name : Value} {od_KeyOrder___init__ an_KeyOrder___init__ : Option Addr} {sl_KeyOrder___init__ : Array (Option Value)} {oc_KeyOrder___init__ kV_KeyOrder___init__ dc_KeyOrder___init__ pm_KeyOrder___init__ cd_KeyOrder___init__ ct_KeyOrder___init__ : Value} {od__law_try an__law_try : Option Addr} {sl__law_try : Array (Option Value)} {oc__law_try kV__law_try dc__law_try pm__law_try cd__law_try ct__law_try : Value} {od__law_due an__law_due : Option Addr} {sl__law_due : Array (Option Value)} {oc__law_due kV__law_due dc__law_due pm__law_due cd__law_due ct__law_due : Value} {od_KeyOrder___getitem__ an_KeyOrder___getitem__ : Option Addr} {sl_KeyOrder___getitem__ : Array (Option Value)} {oc_KeyOrder___getitem__ kV_KeyOrder___getitem__ dc_KeyOrder___getitem__ pm_KeyOrder___getitem__ cd_KeyOrder___getitem__ ct_KeyOrder___getitem__ : Value} {od__law_rank an__law_rank : Option Addr} {sl__law_rank : Array (Option Value)} {oc__law_rank kV__law_rank dc__law_rank pm__law_rank cd__law_rank ct__law_rank : Value} {od_KeyOrder___call__ an_KeyOrder___call__ : Option Addr} {sl_KeyOrder___call__ : Array (Option Value)} {oc_KeyOrder___call__ kV_KeyOrder___call__ dc_KeyOrder___call__ pm_KeyOrder___call__ cd_KeyOrder___call__ ct_KeyOrder___call__ : Value} {od__law_sort an__law_sort : Option Addr} {sl__law_sort : Array (Option Value)} {oc__law_sort kV__law_sort dc__law_sort pm__law_sort cd__law_sort ct__law_sort : Value} {od__law_sort_due an__law_sort_due : Option Addr} {sl__law_sort_due : Array (Option Value)} {oc__law_sort_due kV__law_sort_due dc__law_sort_due pm__law_sort_due cd__law_sort_due ct__law_sort_due : Value} {od_KeyOrder___contains__ an_KeyOrder___contains__ : Option Addr} {sl_KeyOrder___contains__ : Array (Option Value)} {oc_KeyOrder___contains__ kV_KeyOrder___contains__ dc_KeyOrder___contains__ pm_KeyOrder___contains__ cd_KeyOrder___contains__ ct_KeyOrder___contains__ : Value} {od_KeyOrder___iter__ an_KeyOrder___iter__ : Option Addr} {sl_KeyOrder___iter__ : Array (Option Value)} {oc_KeyOrder___iter__ kV_KeyOrder___iter__ dc_KeyOrder___iter__ pm_KeyOrder___iter__ cd_KeyOrder___iter__ ct_KeyOrder___iter__ : Value} {od_KeyOrder___len__ an_KeyOrder___len__ : Option Addr} {sl_KeyOrder___len__ : Array (Option Value)} {oc_KeyOrder___len__ kV_KeyOrder___len__ dc_KeyOrder___len__ pm_KeyOrder___len__ cd_KeyOrder___len__ ct_KeyOrder___len__ : Value} {od__law_fits an__law_fits : Option Addr} {sl__law_fits : Array (Option Value)} {oc__law_fits kV__law_fits dc__law_fits pm__law_fits cd__law_fits ct__law_fits : Value} {od_law an_law : Option Addr} {sl_law : Array (Option Value)} {oc_law kV_law dc_law pm_law cd_law ct_law : Value} {od_RESERVED : Option Addr} {its_RESERVED : Array Value} {n_RESERVED : Nat} {sl_RESERVED : Array (Option Value)} {f_BadName N_BadName cc_BadName cda_BadName : Addr} {nm_BadName q_BadName : Str} {bs_BadName bm_BadName : List Value} {sn_BadName : List Str} {sub_BadName : List Value} {ab_BadName : Bool} {col_BadName : Option Bool} {dd_BadName : Option Addr} {e0_BadName e1_BadName e2_BadName e3_BadName e5_BadName : Option Value} {oc_BadName doc_BadName pm_BadName ct_BadName ccl_BadName cl_BadName : Value} {od_BadName cdd_BadName cld_BadName : Option Addr} {osl_BadName ccs_BadName csl_BadName : Array (Option Value)} {vs_BadName : Array Value} {file_BadName : Str} {tf_BadName : Tok} {cdD_BadName : ClassData} {f_UnknownName N_UnknownName cc_UnknownName cda_UnknownName : Addr} {nm_UnknownName q_UnknownName : Str} {bs_UnknownName bm_UnknownName : List Value} {sn_UnknownName : List Str} {sub_UnknownName : List Value} {ab_UnknownName : Bool} {col_UnknownName : Option Bool} {dd_UnknownName : Option Addr} {e0_UnknownName e1_UnknownName e2_UnknownName e3_UnknownName e5_UnknownName : Option Value} {oc_UnknownName doc_UnknownName pm_UnknownName ct_UnknownName ccl_UnknownName cl_UnknownName : Value} {od_UnknownName cdd_UnknownName cld_UnknownName : Option Addr} {osl_UnknownName ccs_UnknownName csl_UnknownName : Array (Option Value)} {vs_UnknownName : Array Value} {file_UnknownName : Str} {tf_UnknownName : Tok} {cdD_UnknownName : ClassData} {f_BadOrder N_BadOrder cc_BadOrder cda_BadOrder : Addr} {nm_BadOrder q_BadOrder : Str} {bs_BadOrder bm_BadOrder : List Value} {sn_BadOrder : List Str} {sub_BadOrder : List Value} {ab_BadOrder : Bool} {col_BadOrder : Option Bool} {dd_BadOrder : Option Addr} {e0_BadOrder e1_BadOrder e2_BadOrder e3_BadOrder e5_BadOrder : Option Value} {oc_BadOrder doc_BadOrder pm_BadOrder ct_BadOrder ccl_BadOrder cl_BadOrder : Value} {od_BadOrder cdd_BadOrder cld_BadOrder : Option Addr} {osl_BadOrder ccs_BadOrder csl_BadOrder : Array (Option Value)} {vs_BadOrder : Array Value} {file_BadOrder : Str} {tf_BadOrder : Tok} {cdD_BadOrder : ClassData} {f_UnknownKey N_UnknownKey cc_UnknownKey cda_UnknownKey : Addr} {nm_UnknownKey q_UnknownKey : Str} {bs_UnknownKey bm_UnknownKey : List Value} {sn_UnknownKey : List Str} {sub_UnknownKey : List Value} {ab_UnknownKey : Bool} {col_UnknownKey : Option Bool} {dd_UnknownKey : Option Addr} {e0_UnknownKey e1_UnknownKey e2_UnknownKey e3_UnknownKey e5_UnknownKey : Option Value} {oc_UnknownKey doc_UnknownKey pm_UnknownKey ct_UnknownKey ccl_UnknownKey cl_UnknownKey : Value} {od_UnknownKey cdd_UnknownKey cld_UnknownKey : Option Addr} {osl_UnknownKey ccs_UnknownKey csl_UnknownKey : Array (Option Value)} {vs_UnknownKey : Array Value} {file_UnknownKey : Str} {tf_UnknownKey : Tok} {cdD_UnknownKey : ClassData} {D_UnknownKey : Addr} (X : K.In h) (G : h.Ns mainGlobals mg) (hfa : mg "law" = some (.ref fa))
    (g_KeyOrder : PySem.W.nsIn K mainGlobals "KeyOrder" = some (some (.ref a_KeyOrder)))
    (pg_KeyOrder : PySem.W.plainGet K a_KeyOrder Str.empty = true)
    (hx_KeyOrder : PySem.W.hasDictIn K a_KeyOrder = true)
    (po_KeyOrder : PySem.W.plainOver K a_KeyOrder = true)
    (st_KeyOrder : PySem.W.findIn K (.ref a_KeyOrder) "__setattr__" = some (some (.builtin "object.__setattr__")))
    (rr_KeyOrder : PySem.W.readsIn K a_KeyOrder (.type "type") = true)
    (rg_KeyOrder : PySem.W.specialIn K (.ref a_KeyOrder) "__getattribute__" = some (some (.builtin "type.__getattribute__")))
    (mi_KeyOrder : PySem.W.makesIn K a_KeyOrder = true)
    (ko_KeyOrder : PySem.W.keepIn K (.ref a_KeyOrder) = true)
    (sf_KeyOrder : PySem.W.selfFirst K a_KeyOrder = true)
    (na_KeyOrder_names : PySem.W.findIn K (.ref a_KeyOrder) "names" = some none)
    (a_is_name : PySem.W.nsIn K mainGlobals "is_name" = some (some (.ref f_is_name)))
    (l_is_name : K.lookup f_is_name = some ⟨oc_is_name, od_is_name, .func (PySem.W.fnOf "is_name" "is_name" (defArgs s_is_name) (defBody s_is_name) (defScope s_is_name) .none kV_is_name dc_is_name pm_is_name an_is_name cd_is_name ct_is_name), sl_is_name⟩)
    (c_is_name : PySem.W.codeIn K cd_is_name "is_name" = true)
    (k_is_name : PySem.W.keepIn K (.ref f_is_name) = true)
    (a_check_name : PySem.W.nsIn K mainGlobals "check_name" = some (some (.ref f_check_name)))
    (l_check_name : K.lookup f_check_name = some ⟨oc_check_name, od_check_name, .func (PySem.W.fnOf "check_name" "check_name" (defArgs s_check_name) (defBody s_check_name) (defScope s_check_name) .none kV_check_name dc_check_name pm_check_name an_check_name cd_check_name ct_check_name), sl_check_name⟩)
    (c_check_name : PySem.W.codeIn K cd_check_name "check_name" = true)
    (k_check_name : PySem.W.keepIn K (.ref f_check_name) = true)
    (a__law_state : PySem.W.nsIn K mainGlobals "_law_state" = some (some (.ref f__law_state)))
    (l__law_state : K.lookup f__law_state = some ⟨oc__law_state, od__law_state, .func (PySem.W.fnOf "_law_state" "_law_state" (defArgs s__law_state) (defBody s__law_state) (defScope s__law_state) .none kV__law_state dc__law_state pm__law_state an__law_state cd__law_state ct__law_state), sl__law_state⟩)
    (c__law_state : PySem.W.codeIn K cd__law_state "_law_state" = true)
    (k__law_state : PySem.W.keepIn K (.ref f__law_state) = true)
    (a__law_draw : PySem.W.nsIn K mainGlobals "_law_draw" = some (some (.ref f__law_draw)))
    (l__law_draw : K.lookup f__law_draw = some ⟨oc__law_draw, od__law_draw, .func (PySem.W.fnOf "_law_draw" "_law_draw" (defArgs s__law_draw) (defBody s__law_draw) (defScope s__law_draw) .none kV__law_draw dc__law_draw pm__law_draw an__law_draw cd__law_draw ct__law_draw), sl__law_draw⟩)
    (c__law_draw : PySem.W.codeIn K cd__law_draw "_law_draw" = true)
    (k__law_draw : PySem.W.keepIn K (.ref f__law_draw) = true)
    (a__law_pick : PySem.W.nsIn K mainGlobals "_law_pick" = some (some (.ref f__law_pick)))
    (l__law_pick : K.lookup f__law_pick = some ⟨oc__law_pick, od__law_pick, .func (PySem.W.fnOf "_law_pick" "_law_pick" (defArgs s__law_pick) (defBody s__law_pick) (defScope s__law_pick) .none kV__law_pick dc__law_pick pm__law_pick an__law_pick cd__law_pick ct__law_pick), sl__law_pick⟩)
    (c__law_pick : PySem.W.codeIn K cd__law_pick "_law_pick" = true)
    (k__law_pick : PySem.W.keepIn K (.ref f__law_pick) = true)
    (a__law_mixed : PySem.W.nsIn K mainGlobals "_law_mixed" = some (some (.ref f__law_mixed)))
    (l__law_mixed : K.lookup f__law_mixed = some ⟨oc__law_mixed, od__law_mixed, .func (PySem.W.fnOf "_law_mixed" "_law_mixed" (defArgs s__law_mixed) (defBody s__law_mixed) (defScope s__law_mixed) .none kV__law_mixed dc__law_mixed pm__law_mixed an__law_mixed cd__law_mixed ct__law_mixed), sl__law_mixed⟩)
    (c__law_mixed : PySem.W.codeIn K cd__law_mixed "_law_mixed" = true)
    (k__law_mixed : PySem.W.keepIn K (.ref f__law_mixed) = true)
    (a__law_names : PySem.W.nsIn K mainGlobals "_law_names" = some (some (.ref f__law_names)))
    (l__law_names : K.lookup f__law_names = some ⟨oc__law_names, od__law_names, .func (PySem.W.fnOf "_law_names" "_law_names" (defArgs s__law_names) (defBody s__law_names) (defScope s__law_names) .none kV__law_names dc__law_names pm__law_names an__law_names cd__law_names ct__law_names), sl__law_names⟩)
    (c__law_names : PySem.W.codeIn K cd__law_names "_law_names" = true)
    (k__law_names : PySem.W.keepIn K (.ref f__law_names) = true)
    (a__law_is_int : PySem.W.nsIn K mainGlobals "_law_is_int" = some (some (.ref f__law_is_int)))
    (l__law_is_int : K.lookup f__law_is_int = some ⟨oc__law_is_int, od__law_is_int, .func (PySem.W.fnOf "_law_is_int" "_law_is_int" (defArgs s__law_is_int) (defBody s__law_is_int) (defScope s__law_is_int) .none kV__law_is_int dc__law_is_int pm__law_is_int an__law_is_int cd__law_is_int ct__law_is_int), sl__law_is_int⟩)
    (c__law_is_int : PySem.W.codeIn K cd__law_is_int "_law_is_int" = true)
    (k__law_is_int : PySem.W.keepIn K (.ref f__law_is_int) = true)
    (a__law_same : PySem.W.nsIn K mainGlobals "_law_same" = some (some (.ref f__law_same)))
    (l__law_same : K.lookup f__law_same = some ⟨oc__law_same, od__law_same, .func (PySem.W.fnOf "_law_same" "_law_same" (defArgs s__law_same) (defBody s__law_same) (defScope s__law_same) .none kV__law_same dc__law_same pm__law_same an__law_same cd__law_same ct__law_same), sl__law_same⟩)
    (c__law_same : PySem.W.codeIn K cd__law_same "_law_same" = true)
    (k__law_same : PySem.W.keepIn K (.ref f__law_same) = true)
    (a__law_bad_name : PySem.W.nsIn K mainGlobals "_law_bad_name" = some (some (.ref f__law_bad_name)))
    (l__law_bad_name : K.lookup f__law_bad_name = some ⟨oc__law_bad_name, od__law_bad_name, .func (PySem.W.fnOf "_law_bad_name" "_law_bad_name" (defArgs s__law_bad_name) (defBody s__law_bad_name) (defScope s__law_bad_name) .none kV__law_bad_name dc__law_bad_name pm__law_bad_name an__law_bad_name cd__law_bad_name ct__law_bad_name), sl__law_bad_name⟩)
    (c__law_bad_name : PySem.W.codeIn K cd__law_bad_name "_law_bad_name" = true)
    (k__law_bad_name : PySem.W.keepIn K (.ref f__law_bad_name) = true)
    (fa_KeyOrder___init__ : PySem.W.findIn K (.ref a_KeyOrder) "__init__" = some (some (.ref f_KeyOrder___init__)))
    (fn_KeyOrder___init__ : PySem.W.isFn K (.ref f_KeyOrder___init__) = true)
    (l_KeyOrder___init__ : K.lookup f_KeyOrder___init__ = some ⟨oc_KeyOrder___init__, od_KeyOrder___init__, .func (PySem.W.fnOf "__init__" "KeyOrder.__init__" (defArgs s_KeyOrder___init__) (defBody s_KeyOrder___init__) (defScope s_KeyOrder___init__) .none kV_KeyOrder___init__ dc_KeyOrder___init__ pm_KeyOrder___init__ an_KeyOrder___init__ cd_KeyOrder___init__ ct_KeyOrder___init__), sl_KeyOrder___init__⟩)
    (c_KeyOrder___init__ : PySem.W.codeIn K cd_KeyOrder___init__ "KeyOrder.__init__" = true)
    (k_KeyOrder___init__ : PySem.W.keepIn K (.ref f_KeyOrder___init__) = true)
    (a__law_try : PySem.W.nsIn K mainGlobals "_law_try" = some (some (.ref f__law_try)))
    (l__law_try : K.lookup f__law_try = some ⟨oc__law_try, od__law_try, .func (PySem.W.fnOf "_law_try" "_law_try" (defArgs s__law_try) (defBody s__law_try) (defScope s__law_try) .none kV__law_try dc__law_try pm__law_try an__law_try cd__law_try ct__law_try), sl__law_try⟩)
    (c__law_try : PySem.W.codeIn K cd__law_try "_law_try" = true)
    (k__law_try : PySem.W.keepIn K (.ref f__law_try) = true)
    (a__law_due : PySem.W.nsIn K mainGlobals "_law_due" = some (some (.ref f__law_due)))
    (l__law_due : K.lookup f__law_due = some ⟨oc__law_due, od__law_due, .func (PySem.W.fnOf "_law_due" "_law_due" (defArgs s__law_due) (defBody s__law_due) (defScope s__law_due) .none kV__law_due dc__law_due pm__law_due an__law_due cd__law_due ct__law_due), sl__law_due⟩)
    (c__law_due : PySem.W.codeIn K cd__law_due "_law_due" = true)
    (k__law_due : PySem.W.keepIn K (.ref f__law_due) = true)
    (fa_KeyOrder___getitem__ : PySem.W.findIn K (.ref a_KeyOrder) "__getitem__" = some (some (.ref f_KeyOrder___getitem__)))
    (fn_KeyOrder___getitem__ : PySem.W.isFn K (.ref f_KeyOrder___getitem__) = true)
    (fi_KeyOrder___getitem__ : PySem.W.fnIn K f_KeyOrder___getitem__ = true)
    (l_KeyOrder___getitem__ : K.lookup f_KeyOrder___getitem__ = some ⟨oc_KeyOrder___getitem__, od_KeyOrder___getitem__, .func (PySem.W.fnOf "__getitem__" "KeyOrder.__getitem__" (defArgs s_KeyOrder___getitem__) (defBody s_KeyOrder___getitem__) (defScope s_KeyOrder___getitem__) .none kV_KeyOrder___getitem__ dc_KeyOrder___getitem__ pm_KeyOrder___getitem__ an_KeyOrder___getitem__ cd_KeyOrder___getitem__ ct_KeyOrder___getitem__), sl_KeyOrder___getitem__⟩)
    (c_KeyOrder___getitem__ : PySem.W.codeIn K cd_KeyOrder___getitem__ "KeyOrder.__getitem__" = true)
    (k_KeyOrder___getitem__ : PySem.W.keepIn K (.ref f_KeyOrder___getitem__) = true)
    (a__law_rank : PySem.W.nsIn K mainGlobals "_law_rank" = some (some (.ref f__law_rank)))
    (l__law_rank : K.lookup f__law_rank = some ⟨oc__law_rank, od__law_rank, .func (PySem.W.fnOf "_law_rank" "_law_rank" (defArgs s__law_rank) (defBody s__law_rank) (defScope s__law_rank) .none kV__law_rank dc__law_rank pm__law_rank an__law_rank cd__law_rank ct__law_rank), sl__law_rank⟩)
    (c__law_rank : PySem.W.codeIn K cd__law_rank "_law_rank" = true)
    (k__law_rank : PySem.W.keepIn K (.ref f__law_rank) = true)
    (fa_KeyOrder___call__ : PySem.W.findIn K (.ref a_KeyOrder) "__call__" = some (some (.ref f_KeyOrder___call__)))
    (fn_KeyOrder___call__ : PySem.W.isFn K (.ref f_KeyOrder___call__) = true)
    (fi_KeyOrder___call__ : PySem.W.fnIn K f_KeyOrder___call__ = true)
    (l_KeyOrder___call__ : K.lookup f_KeyOrder___call__ = some ⟨oc_KeyOrder___call__, od_KeyOrder___call__, .func (PySem.W.fnOf "__call__" "KeyOrder.__call__" (defArgs s_KeyOrder___call__) (defBody s_KeyOrder___call__) (defScope s_KeyOrder___call__) .none kV_KeyOrder___call__ dc_KeyOrder___call__ pm_KeyOrder___call__ an_KeyOrder___call__ cd_KeyOrder___call__ ct_KeyOrder___call__), sl_KeyOrder___call__⟩)
    (c_KeyOrder___call__ : PySem.W.codeIn K cd_KeyOrder___call__ "KeyOrder.__call__" = true)
    (k_KeyOrder___call__ : PySem.W.keepIn K (.ref f_KeyOrder___call__) = true)
    (a__law_sort : PySem.W.nsIn K mainGlobals "_law_sort" = some (some (.ref f__law_sort)))
    (l__law_sort : K.lookup f__law_sort = some ⟨oc__law_sort, od__law_sort, .func (PySem.W.fnOf "_law_sort" "_law_sort" (defArgs s__law_sort) (defBody s__law_sort) (defScope s__law_sort) .none kV__law_sort dc__law_sort pm__law_sort an__law_sort cd__law_sort ct__law_sort), sl__law_sort⟩)
    (c__law_sort : PySem.W.codeIn K cd__law_sort "_law_sort" = true)
    (k__law_sort : PySem.W.keepIn K (.ref f__law_sort) = true)
    (a__law_sort_due : PySem.W.nsIn K mainGlobals "_law_sort_due" = some (some (.ref f__law_sort_due)))
    (l__law_sort_due : K.lookup f__law_sort_due = some ⟨oc__law_sort_due, od__law_sort_due, .func (PySem.W.fnOf "_law_sort_due" "_law_sort_due" (defArgs s__law_sort_due) (defBody s__law_sort_due) (defScope s__law_sort_due) .none kV__law_sort_due dc__law_sort_due pm__law_sort_due an__law_sort_due cd__law_sort_due ct__law_sort_due), sl__law_sort_due⟩)
    (c__law_sort_due : PySem.W.codeIn K cd__law_sort_due "_law_sort_due" = true)
    (k__law_sort_due : PySem.W.keepIn K (.ref f__law_sort_due) = true)
    (fa_KeyOrder___contains__ : PySem.W.findIn K (.ref a_KeyOrder) "__contains__" = some (some (.ref f_KeyOrder___contains__)))
    (fn_KeyOrder___contains__ : PySem.W.isFn K (.ref f_KeyOrder___contains__) = true)
    (l_KeyOrder___contains__ : K.lookup f_KeyOrder___contains__ = some ⟨oc_KeyOrder___contains__, od_KeyOrder___contains__, .func (PySem.W.fnOf "__contains__" "KeyOrder.__contains__" (defArgs s_KeyOrder___contains__) (defBody s_KeyOrder___contains__) (defScope s_KeyOrder___contains__) .none kV_KeyOrder___contains__ dc_KeyOrder___contains__ pm_KeyOrder___contains__ an_KeyOrder___contains__ cd_KeyOrder___contains__ ct_KeyOrder___contains__), sl_KeyOrder___contains__⟩)
    (c_KeyOrder___contains__ : PySem.W.codeIn K cd_KeyOrder___contains__ "KeyOrder.__contains__" = true)
    (k_KeyOrder___contains__ : PySem.W.keepIn K (.ref f_KeyOrder___contains__) = true)
    (fa_KeyOrder___iter__ : PySem.W.findIn K (.ref a_KeyOrder) "__iter__" = some (some (.ref f_KeyOrder___iter__)))
    (fn_KeyOrder___iter__ : PySem.W.isFn K (.ref f_KeyOrder___iter__) = true)
    (l_KeyOrder___iter__ : K.lookup f_KeyOrder___iter__ = some ⟨oc_KeyOrder___iter__, od_KeyOrder___iter__, .func (PySem.W.fnOf "__iter__" "KeyOrder.__iter__" (defArgs s_KeyOrder___iter__) (defBody s_KeyOrder___iter__) (defScope s_KeyOrder___iter__) .none kV_KeyOrder___iter__ dc_KeyOrder___iter__ pm_KeyOrder___iter__ an_KeyOrder___iter__ cd_KeyOrder___iter__ ct_KeyOrder___iter__), sl_KeyOrder___iter__⟩)
    (c_KeyOrder___iter__ : PySem.W.codeIn K cd_KeyOrder___iter__ "KeyOrder.__iter__" = true)
    (k_KeyOrder___iter__ : PySem.W.keepIn K (.ref f_KeyOrder___iter__) = true)
    (fa_KeyOrder___len__ : PySem.W.findIn K (.ref a_KeyOrder) "__len__" = some (some (.ref f_KeyOrder___len__)))
    (fn_KeyOrder___len__ : PySem.W.isFn K (.ref f_KeyOrder___len__) = true)
    (l_KeyOrder___len__ : K.lookup f_KeyOrder___len__ = some ⟨oc_KeyOrder___len__, od_KeyOrder___len__, .func (PySem.W.fnOf "__len__" "KeyOrder.__len__" (defArgs s_KeyOrder___len__) (defBody s_KeyOrder___len__) (defScope s_KeyOrder___len__) .none kV_KeyOrder___len__ dc_KeyOrder___len__ pm_KeyOrder___len__ an_KeyOrder___len__ cd_KeyOrder___len__ ct_KeyOrder___len__), sl_KeyOrder___len__⟩)
    (c_KeyOrder___len__ : PySem.W.codeIn K cd_KeyOrder___len__ "KeyOrder.__len__" = true)
    (k_KeyOrder___len__ : PySem.W.keepIn K (.ref f_KeyOrder___len__) = true)
    (a__law_fits : PySem.W.nsIn K mainGlobals "_law_fits" = some (some (.ref f__law_fits)))
    (l__law_fits : K.lookup f__law_fits = some ⟨oc__law_fits, od__law_fits, .func (PySem.W.fnOf "_law_fits" "_law_fits" (defArgs s__law_fits) (defBody s__law_fits) (defScope s__law_fits) .none kV__law_fits dc__law_fits pm__law_fits an__law_fits cd__law_fits ct__law_fits), sl__law_fits⟩)
    (c__law_fits : PySem.W.codeIn K cd__law_fits "_law_fits" = true)
    (k__law_fits : PySem.W.keepIn K (.ref f__law_fits) = true)
    (a_law : PySem.W.nsIn K mainGlobals "law" = some (some (.ref f_law)))
    (l_law : K.lookup f_law = some ⟨oc_law, od_law, .func (PySem.W.fnOf "law" "law" (defArgs s_law) (defBody s_law) (defScope s_law) .none kV_law dc_law pm_law an_law cd_law ct_law), sl_law⟩)
    (c_law : PySem.W.codeIn K cd_law "law" = true)
    (k_law : PySem.W.keepIn K (.ref f_law) = true)
    (z_ValueError : PySem.W.nsIn K mainGlobals "ValueError" = some none)
    (z_all : PySem.W.nsIn K mainGlobals "all" = some none)
    (z_bool : PySem.W.nsIn K mainGlobals "bool" = some none)
    (z_dict : PySem.W.nsIn K mainGlobals "dict" = some none)
    (z_enumerate : PySem.W.nsIn K mainGlobals "enumerate" = some none)
    (z_int : PySem.W.nsIn K mainGlobals "int" = some none)
    (z_isinstance : PySem.W.nsIn K mainGlobals "isinstance" = some none)
    (z_iter : PySem.W.nsIn K mainGlobals "iter" = some none)
    (z_len : PySem.W.nsIn K mainGlobals "len" = some none)
    (z_list : PySem.W.nsIn K mainGlobals "list" = some none)
    (z_range : PySem.W.nsIn K mainGlobals "range" = some none)
    (z_set : PySem.W.nsIn K mainGlobals "set" = some none)
    (z_str : PySem.W.nsIn K mainGlobals "str" = some none)
    (z_super : PySem.W.nsIn K mainGlobals "super" = some none)
    (z_tuple : PySem.W.nsIn K mainGlobals "tuple" = some none)
    (g_LETTERS : PySem.W.nsIn K mainGlobals "LETTERS" = some (some (.str "abcdefghijklmnopqrstuvwxyz" t_LETTERS)))
    (g_LONGEST_NAME : PySem.W.nsIn K mainGlobals "LONGEST_NAME" = some (some (.int 12 t_LONGEST_NAME)))
    (g_RESERVED : PySem.W.nsIn K mainGlobals "RESERVED" = some (some (.ref a_RESERVED)))
    (l_RESERVED : K.lookup a_RESERVED = some ⟨.type "tuple", od_RESERVED, .seq its_RESERVED n_RESERVED, sl_RESERVED⟩)
    (v_RESERVED : Vals [(.str "always"), (.str "never"), (.str "and"), (.str "or"), (.str "not"), (.str "when"), (.str "add"), (.str "set"), (.str "change"), (.str "tell"), (.str "refuse"), (.str "take"), (.str "look"), (.str "free"), (.str "lock"), (.str "keep"), (.str "keys"), (.str "fields")] its_RESERVED.toList)
    (g_BadName : PySem.W.nsIn K mainGlobals "BadName" = some (some (.ref a_BadName)))
    (g_BadOrder : PySem.W.nsIn K mainGlobals "BadOrder" = some (some (.ref a_BadOrder)))
    (g_ElseputError : PySem.W.nsIn K mainGlobals "ElseputError" = some (some (.ref a_ElseputError)))
    (g_UnknownField : PySem.W.nsIn K mainGlobals "UnknownField" = some (some (.ref a_UnknownField)))
    (g_UnknownKey : PySem.W.nsIn K mainGlobals "UnknownKey" = some (some (.ref a_UnknownKey)))
    (g_UnknownName : PySem.W.nsIn K mainGlobals "UnknownName" = some (some (.ref a_UnknownName)))
    (g_UnknownShape : PySem.W.nsIn K mainGlobals "UnknownShape" = some (some (.ref a_UnknownShape)))
    (st_any : PySem.W.nsIn K PySem.cStatics "thirdparty.any" = some none)
    (htop : (l.prog.main.scope.names.lookup ("super" : Str)).isSome = false)
    (xc_BadName : K.lookup a_BadName = some (excClassObj nm_BadName q_BadName a_BadName N_BadName bs_BadName bm_BadName true sn_BadName sub_BadName ab_BadName col_BadName dd_BadName e0_BadName e1_BadName e2_BadName e3_BadName e5_BadName "ValueError.__new__"))
    (ref_BadName : PySem.HandSPX.refsVE bm_BadName = true)
    (sa_BadName : PySem.W.findIn K (.ref a_BadName) "__setattr__" = some (some (.builtin "object.__setattr__")))
    (eb_BadName : PySem.W.subIn K (.ref a_BadName) (.type "BaseException") = some true)
    (ty_BadName : PySem.W.typeIn K (.ref a_BadName) = some (.type "type"))
    (kC_BadName : PySem.W.keepIn K (.ref a_BadName) = true)
    (iC_BadName : PySem.W.findIn K (.ref a_BadName) "__init__" = some (some (.ref f_BadName)))
    (tI_BadName : PySem.W.typeIn K (.ref f_BadName) = some (.type "function"))
    (sup_BadName : PySem.W.ks_superIn K a_BadName a_BadName "__init__" = some (some (.builtin "ValueError.__init__")))
    (sv_BadName : PySem.W.subIn K (.ref a_BadName) (.type "ValueError") = some true)
    (mro_BadName : PySem.W.mroIn K a_BadName (.ref a_BadName) = some true)
    (no0_BadName : PySem.W.findIn K (.ref a_BadName) "name" = some none)
    (ga_BadName : PySem.W.findIn K (.ref a_BadName) "__getattribute__" = some (some (.builtin "BaseException.__getattribute__")))
    (gg_BadName : PySem.W.findIn K (.ref a_BadName) "__getattr__" = some none)
    (hd_BadName : PySem.W.hasDictIn K a_BadName = true)
    (hcl_BadName : PySem.W.findIn K (.ref a_BadName) "__class__" = some (some (.builtin "object.__class__")))
    (hn_BadName : PySem.W.specialIn K (.builtin "object.__class__") "__get__" = some (some (.builtin "getset_descriptor.__get__")))
    (ht_BadName : PySem.W.takesIn K (.builtin "object.__class__") = some true)
    (hm_BadName : PySem.W.mroIn K a_BadName (.type "object") = some true)
    (lf_BadName : K.lookup f_BadName = some ⟨oc_BadName, od_BadName, .func (PySem.W.fnX "__init__" "BadName.__init__" (defArgs s_BadName) (defBody s_BadName) (defScope s_BadName) [("__class__", cc_BadName)] .none .none doc_BadName pm_BadName none (.ref cda_BadName) ct_BadName), osl_BadName⟩)
    (cd_BadName : PySem.W.codeIn K (.ref cda_BadName) "BadName.__init__" = true)
    (lc_BadName : K.lookup cda_BadName = some ⟨ccl_BadName, cdd_BadName, .fields vs_BadName, ccs_BadName⟩)
    (v2_BadName : vs_BadName[2]? = some (.str file_BadName tf_BadName))
    (fe_BadName : ((l.prog.main.file : Str) == file_BadName) = true)
    (lcc_BadName : K.lookup cc_BadName = some ⟨cl_BadName, cld_BadName, .cell (some (.ref a_BadName)), csl_BadName⟩)
    (hD_BadName : PySem.W.clsIn K a_BadName = some cdD_BadName)
    (xc_UnknownName : K.lookup a_UnknownName = some (excClassObj nm_UnknownName q_UnknownName a_UnknownName N_UnknownName bs_UnknownName bm_UnknownName true sn_UnknownName sub_UnknownName ab_UnknownName col_UnknownName dd_UnknownName e0_UnknownName e1_UnknownName e2_UnknownName e3_UnknownName e5_UnknownName "ValueError.__new__"))
    (ref_UnknownName : PySem.HandSPX.refsVE bm_UnknownName = true)
    (sa_UnknownName : PySem.W.findIn K (.ref a_UnknownName) "__setattr__" = some (some (.builtin "object.__setattr__")))
    (eb_UnknownName : PySem.W.subIn K (.ref a_UnknownName) (.type "BaseException") = some true)
    (ty_UnknownName : PySem.W.typeIn K (.ref a_UnknownName) = some (.type "type"))
    (kC_UnknownName : PySem.W.keepIn K (.ref a_UnknownName) = true)
    (iC_UnknownName : PySem.W.findIn K (.ref a_UnknownName) "__init__" = some (some (.ref f_UnknownName)))
    (tI_UnknownName : PySem.W.typeIn K (.ref f_UnknownName) = some (.type "function"))
    (sup_UnknownName : PySem.W.ks_superIn K a_UnknownName a_UnknownName "__init__" = some (some (.builtin "ValueError.__init__")))
    (sv_UnknownName : PySem.W.subIn K (.ref a_UnknownName) (.type "ValueError") = some true)
    (mro_UnknownName : PySem.W.mroIn K a_UnknownName (.ref a_UnknownName) = some true)
    (no0_UnknownName : PySem.W.findIn K (.ref a_UnknownName) "name" = some none)
    (ga_UnknownName : PySem.W.findIn K (.ref a_UnknownName) "__getattribute__" = some (some (.builtin "BaseException.__getattribute__")))
    (gg_UnknownName : PySem.W.findIn K (.ref a_UnknownName) "__getattr__" = some none)
    (hd_UnknownName : PySem.W.hasDictIn K a_UnknownName = true)
    (hcl_UnknownName : PySem.W.findIn K (.ref a_UnknownName) "__class__" = some (some (.builtin "object.__class__")))
    (hn_UnknownName : PySem.W.specialIn K (.builtin "object.__class__") "__get__" = some (some (.builtin "getset_descriptor.__get__")))
    (ht_UnknownName : PySem.W.takesIn K (.builtin "object.__class__") = some true)
    (hm_UnknownName : PySem.W.mroIn K a_UnknownName (.type "object") = some true)
    (lf_UnknownName : K.lookup f_UnknownName = some ⟨oc_UnknownName, od_UnknownName, .func (PySem.W.fnX "__init__" "UnknownName.__init__" (defArgs s_UnknownName) (defBody s_UnknownName) (defScope s_UnknownName) [("__class__", cc_UnknownName)] .none .none doc_UnknownName pm_UnknownName none (.ref cda_UnknownName) ct_UnknownName), osl_UnknownName⟩)
    (cd_UnknownName : PySem.W.codeIn K (.ref cda_UnknownName) "UnknownName.__init__" = true)
    (lc_UnknownName : K.lookup cda_UnknownName = some ⟨ccl_UnknownName, cdd_UnknownName, .fields vs_UnknownName, ccs_UnknownName⟩)
    (v2_UnknownName : vs_UnknownName[2]? = some (.str file_UnknownName tf_UnknownName))
    (fe_UnknownName : ((l.prog.main.file : Str) == file_UnknownName) = true)
    (lcc_UnknownName : K.lookup cc_UnknownName = some ⟨cl_UnknownName, cld_UnknownName, .cell (some (.ref a_UnknownName)), csl_UnknownName⟩)
    (hD_UnknownName : PySem.W.clsIn K a_UnknownName = some cdD_UnknownName)
    (xc_BadOrder : K.lookup a_BadOrder = some (excClassObj nm_BadOrder q_BadOrder a_BadOrder N_BadOrder bs_BadOrder bm_BadOrder true sn_BadOrder sub_BadOrder ab_BadOrder col_BadOrder dd_BadOrder e0_BadOrder e1_BadOrder e2_BadOrder e3_BadOrder e5_BadOrder "ValueError.__new__"))
    (ref_BadOrder : PySem.HandSPX.refsVE bm_BadOrder = true)
    (sa_BadOrder : PySem.W.findIn K (.ref a_BadOrder) "__setattr__" = some (some (.builtin "object.__setattr__")))
    (eb_BadOrder : PySem.W.subIn K (.ref a_BadOrder) (.type "BaseException") = some true)
    (ty_BadOrder : PySem.W.typeIn K (.ref a_BadOrder) = some (.type "type"))
    (kC_BadOrder : PySem.W.keepIn K (.ref a_BadOrder) = true)
    (iC_BadOrder : PySem.W.findIn K (.ref a_BadOrder) "__init__" = some (some (.ref f_BadOrder)))
    (tI_BadOrder : PySem.W.typeIn K (.ref f_BadOrder) = some (.type "function"))
    (sup_BadOrder : PySem.W.ks_superIn K a_BadOrder a_BadOrder "__init__" = some (some (.builtin "ValueError.__init__")))
    (sv_BadOrder : PySem.W.subIn K (.ref a_BadOrder) (.type "ValueError") = some true)
    (mro_BadOrder : PySem.W.mroIn K a_BadOrder (.ref a_BadOrder) = some true)
    (ga_BadOrder : PySem.W.findIn K (.ref a_BadOrder) "__getattribute__" = some (some (.builtin "BaseException.__getattribute__")))
    (gg_BadOrder : PySem.W.findIn K (.ref a_BadOrder) "__getattr__" = some none)
    (hd_BadOrder : PySem.W.hasDictIn K a_BadOrder = true)
    (hcl_BadOrder : PySem.W.findIn K (.ref a_BadOrder) "__class__" = some (some (.builtin "object.__class__")))
    (hn_BadOrder : PySem.W.specialIn K (.builtin "object.__class__") "__get__" = some (some (.builtin "getset_descriptor.__get__")))
    (ht_BadOrder : PySem.W.takesIn K (.builtin "object.__class__") = some true)
    (hm_BadOrder : PySem.W.mroIn K a_BadOrder (.type "object") = some true)
    (lf_BadOrder : K.lookup f_BadOrder = some ⟨oc_BadOrder, od_BadOrder, .func (PySem.W.fnX "__init__" "BadOrder.__init__" (defArgs s_BadOrder) (defBody s_BadOrder) (defScope s_BadOrder) [("__class__", cc_BadOrder)] .none .none doc_BadOrder pm_BadOrder none (.ref cda_BadOrder) ct_BadOrder), osl_BadOrder⟩)
    (cd_BadOrder : PySem.W.codeIn K (.ref cda_BadOrder) "BadOrder.__init__" = true)
    (lc_BadOrder : K.lookup cda_BadOrder = some ⟨ccl_BadOrder, cdd_BadOrder, .fields vs_BadOrder, ccs_BadOrder⟩)
    (v2_BadOrder : vs_BadOrder[2]? = some (.str file_BadOrder tf_BadOrder))
    (fe_BadOrder : ((l.prog.main.file : Str) == file_BadOrder) = true)
    (lcc_BadOrder : K.lookup cc_BadOrder = some ⟨cl_BadOrder, cld_BadOrder, .cell (some (.ref a_BadOrder)), csl_BadOrder⟩)
    (hD_BadOrder : PySem.W.clsIn K a_BadOrder = some cdD_BadOrder)
    (xc_UnknownKey : K.lookup a_UnknownKey = some (excClassObj nm_UnknownKey q_UnknownKey a_UnknownKey N_UnknownKey bs_UnknownKey bm_UnknownKey true sn_UnknownKey sub_UnknownKey ab_UnknownKey col_UnknownKey dd_UnknownKey e0_UnknownKey e1_UnknownKey e2_UnknownKey e3_UnknownKey e5_UnknownKey "ValueError.__new__"))
    (ref_UnknownKey : PySem.HandSPX.refsVE bm_UnknownKey = true)
    (sa_UnknownKey : PySem.W.findIn K (.ref a_UnknownKey) "__setattr__" = some (some (.builtin "object.__setattr__")))
    (eb_UnknownKey : PySem.W.subIn K (.ref a_UnknownKey) (.type "BaseException") = some true)
    (ty_UnknownKey : PySem.W.typeIn K (.ref a_UnknownKey) = some (.type "type"))
    (kC_UnknownKey : PySem.W.keepIn K (.ref a_UnknownKey) = true)
    (iC_UnknownKey : PySem.W.findIn K (.ref a_UnknownKey) "__init__" = some (some (.ref f_UnknownKey)))
    (tI_UnknownKey : PySem.W.typeIn K (.ref f_UnknownKey) = some (.type "function"))
    (sv_UnknownKey : PySem.W.subIn K (.ref a_UnknownKey) (.type "ValueError") = some true)
    (no0_UnknownKey : PySem.W.findIn K (.ref a_UnknownKey) "name" = some none)
    (ga_UnknownKey : PySem.W.findIn K (.ref a_UnknownKey) "__getattribute__" = some (some (.builtin "BaseException.__getattribute__")))
    (gg_UnknownKey : PySem.W.findIn K (.ref a_UnknownKey) "__getattr__" = some none)
    (hd_UnknownKey : PySem.W.hasDictIn K a_UnknownKey = true)
    (hcl_UnknownKey : PySem.W.findIn K (.ref a_UnknownKey) "__class__" = some (some (.builtin "object.__class__")))
    (hn_UnknownKey : PySem.W.specialIn K (.builtin "object.__class__") "__get__" = some (some (.builtin "getset_descriptor.__get__")))
    (ht_UnknownKey : PySem.W.takesIn K (.builtin "object.__class__") = some true)
    (hm_UnknownKey : PySem.W.mroIn K a_UnknownKey (.type "object") = some true)
    (lf_UnknownKey : K.lookup f_UnknownKey = some ⟨oc_UnknownKey, od_UnknownKey, .func (PySem.W.fnX "__init__" "UnknownName.__init__" (defArgs s_UnknownKey) (defBody s_UnknownKey) (defScope s_UnknownKey) [("__class__", cc_UnknownKey)] .none .none doc_UnknownKey pm_UnknownKey none (.ref cda_UnknownKey) ct_UnknownKey), osl_UnknownKey⟩)
    (cd_UnknownKey : PySem.W.codeIn K (.ref cda_UnknownKey) "UnknownName.__init__" = true)
    (lc_UnknownKey : K.lookup cda_UnknownKey = some ⟨ccl_UnknownKey, cdd_UnknownKey, .fields vs_UnknownKey, ccs_UnknownKey⟩)
    (v2_UnknownKey : vs_UnknownKey[2]? = some (.str file_UnknownKey tf_UnknownKey))
    (fe_UnknownKey : ((l.prog.main.file : Str) == file_UnknownKey) = true)
    (lcc_UnknownKey : K.lookup cc_UnknownKey = some ⟨cl_UnknownKey, cld_UnknownKey, .cell (some (.ref D_UnknownKey)), csl_UnknownKey⟩)
    (sup_UnknownKey : PySem.W.ks_superIn K a_UnknownKey D_UnknownKey "__init__" = some (some (.builtin "ValueError.__init__")))
    (mro_UnknownKey : PySem.W.mroIn K a_UnknownKey (.ref D_UnknownKey) = some true)
    (hD_UnknownKey : PySem.W.clsIn K D_UnknownKey = some cdD_UnknownKey)
    (mb_ElseputError : PySem.W.subIn K (.ref a_ElseputError) (.type "BaseException") = some true)
    (md_ElseputError : PySem.W.hasDictIn K a_ElseputError = true)
    (mt_ElseputError : PySem.W.typeIn K (.ref a_ElseputError) = some (.type "type"))
    (mb_UnknownKey : PySem.W.subIn K (.ref a_UnknownKey) (.type "BaseException") = some true)
    (md_UnknownKey : PySem.W.hasDictIn K a_UnknownKey = true)
    (mt_UnknownKey : PySem.W.typeIn K (.ref a_UnknownKey) = some (.type "type"))
    (ms_BadName_ElseputError : PySem.W.subIn K (.ref a_BadName) (.ref a_ElseputError) = some true)
    (ms_BadName_UnknownKey : PySem.W.subIn K (.ref a_BadName) (.ref a_UnknownKey) = some false)
    (ms_BadOrder_ElseputError : PySem.W.subIn K (.ref a_BadOrder) (.ref a_ElseputError) = some true)
    (ms_BadOrder_UnknownKey : PySem.W.subIn K (.ref a_BadOrder) (.ref a_UnknownKey) = some false)
    (ms_UnknownKey_ElseputError : PySem.W.subIn K (.ref a_UnknownKey) (.ref a_ElseputError) = some true)
    (ms_UnknownKey_UnknownKey : PySem.W.subIn K (.ref a_UnknownKey) (.ref a_UnknownKey) = some true)
    (kit_BadName_BadName : PySem.W.kitOne K (.ref a_BadName) (.ref a_BadName) = some true)
    (kit_BadName_BadOrder : PySem.W.kitOne K (.ref a_BadName) (.ref a_BadOrder) = some false)
    (kit_BadName_UnknownName : PySem.W.kitOne K (.ref a_BadName) (.ref a_UnknownName) = some false)
    (kit_BadName_ValueError : PySem.W.kitOne K (.ref a_BadName) (.type "ValueError") = some true)
    (kit_BadName_UnknownField : PySem.W.kitOne K (.ref a_BadName) (.ref a_UnknownField) = some false)
    (kit_BadName_UnknownShape : PySem.W.kitOne K (.ref a_BadName) (.ref a_UnknownShape) = some false)
    (kit_BadOrder_BadName : PySem.W.kitOne K (.ref a_BadOrder) (.ref a_BadName) = some false)
    (kit_BadOrder_BadOrder : PySem.W.kitOne K (.ref a_BadOrder) (.ref a_BadOrder) = some true)
    (kit_BadOrder_UnknownName : PySem.W.kitOne K (.ref a_BadOrder) (.ref a_UnknownName) = some false)
    (kit_BadOrder_ValueError : PySem.W.kitOne K (.ref a_BadOrder) (.type "ValueError") = some true)
    (kit_BadOrder_UnknownField : PySem.W.kitOne K (.ref a_BadOrder) (.ref a_UnknownField) = some false)
    (kit_BadOrder_UnknownShape : PySem.W.kitOne K (.ref a_BadOrder) (.ref a_UnknownShape) = some false)
    (kit_UnknownKey_BadName : PySem.W.kitOne K (.ref a_UnknownKey) (.ref a_BadName) = some false)
    (kit_UnknownKey_BadOrder : PySem.W.kitOne K (.ref a_UnknownKey) (.ref a_BadOrder) = some false)
    (kit_UnknownKey_UnknownName : PySem.W.kitOne K (.ref a_UnknownKey) (.ref a_UnknownName) = some true)
    (kit_UnknownKey_ValueError : PySem.W.kitOne K (.ref a_UnknownKey) (.type "ValueError") = some true)
    (kit_UnknownKey_UnknownField : PySem.W.kitOne K (.ref a_UnknownKey) (.ref a_UnknownField) = some false)
    (kit_UnknownKey_UnknownShape : PySem.W.kitOne K (.ref a_UnknownKey) (.ref a_UnknownShape) = some false)
    : ∃ fd : FuncData, (∀ (s : Shared) (v : Value), BindsTo s fd ⟨[v], []⟩ [("_law_script", v)]) ∧ ∀ base : Heap, K.In base → base.Ns mainGlobals mg → FnOk l.prog w K mg base CX0 10 fa fd ["_law_script"] (spLaw K) := by
  have e := hfa.symm.trans (PySem.W.mg_of X G a_law)
  cases e
  have XK_BadName : ExK K a_BadName f_BadName ["name"] := exk_mk xc_BadName ref_BadName sa_BadName eb_BadName ty_BadName kC_BadName sup_BadName sv_BadName mro_BadName iC_BadName tI_BadName (fun f hf => by simp only [List.mem_cons, List.not_mem_nil, or_false] at hf; subst hf; exact no0_BadName) ga_BadName gg_BadName hd_BadName hcl_BadName hn_BadName ht_BadName hm_BadName
  have XK_UnknownName : ExK K a_UnknownName f_UnknownName ["name"] := exk_mk xc_UnknownName ref_UnknownName sa_UnknownName eb_UnknownName ty_UnknownName kC_UnknownName sup_UnknownName sv_UnknownName mro_UnknownName iC_UnknownName tI_UnknownName (fun f hf => by simp only [List.mem_cons, List.not_mem_nil, or_false] at hf; subst hf; exact no0_UnknownName) ga_UnknownName gg_UnknownName hd_UnknownName hcl_UnknownName hn_UnknownName ht_UnknownName hm_UnknownName
  have XK_BadOrder : ExK K a_BadOrder f_BadOrder [] := exk_mk xc_BadOrder ref_BadOrder sa_BadOrder eb_BadOrder ty_BadOrder kC_BadOrder sup_BadOrder sv_BadOrder mro_BadOrder iC_BadOrder tI_BadOrder (fun f hf => nomatch hf) ga_BadOrder gg_BadOrder hd_BadOrder hcl_BadOrder hn_BadOrder ht_BadOrder hm_BadOrder
  have XK_UnknownKey : ExI K a_UnknownKey D_UnknownKey f_UnknownKey ["name"] := exi_mk xc_UnknownKey ref_UnknownKey sa_UnknownKey eb_UnknownKey ty_UnknownKey kC_UnknownKey sup_UnknownKey sv_UnknownKey mro_UnknownKey iC_UnknownKey tI_UnknownKey (fun f hf => by simp only [List.mem_cons, List.not_mem_nil, or_false] at hf; subst hf; exact no0_UnknownKey) ga_UnknownKey gg_UnknownKey hd_UnknownKey hcl_UnknownKey hn_UnknownKey ht_UnknownKey hm_UnknownKey
  have T : Gs K mg t_LETTERS t_LONGEST_NAME a_RESERVED a_BadName a_BadOrder a_ElseputError a_KeyOrder a_UnknownField a_UnknownKey a_UnknownName a_UnknownShape := { z_ValueError := PySem.W.mg_none_of X G z_ValueError, z_all := PySem.W.mg_none_of X G z_all, z_bool := PySem.W.mg_none_of X G z_bool, z_dict := PySem.W.mg_none_of X G z_dict, z_enumerate := PySem.W.mg_none_of X G z_enumerate, z_int := PySem.W.mg_none_of X G z_int, z_isinstance := PySem.W.mg_none_of X G z_isinstance, z_iter := PySem.W.mg_none_of X G z_iter, z_len := PySem.W.mg_none_of X G z_len, z_list := PySem.W.mg_none_of X G z_list, z_range := PySem.W.mg_none_of X G z_range, z_set := PySem.W.mg_none_of X G z_set, z_str := PySem.W.mg_none_of X G z_str, z_super := PySem.W.mg_none_of X G z_super, z_tuple := PySem.W.mg_none_of X G z_tuple, g_LETTERS := PySem.W.mg_of X G g_LETTERS, g_LONGEST_NAME := PySem.W.mg_of X G g_LONGEST_NAME, g_RESERVED := PySem.W.mg_of X G g_RESERVED, g_BadName := PySem.W.mg_of X G g_BadName, g_BadOrder := PySem.W.mg_of X G g_BadOrder, g_ElseputError := PySem.W.mg_of X G g_ElseputError, g_KeyOrder := PySem.W.mg_of X G g_KeyOrder, g_UnknownField := PySem.W.mg_of X G g_UnknownField, g_UnknownKey := PySem.W.mg_of X G g_UnknownKey, g_UnknownName := PySem.W.mg_of X G g_UnknownName, g_UnknownShape := PySem.W.mg_of X G g_UnknownShape, q_RESERVED := fun _ => .inr ⟨_, _, _, l_RESERVED, rfl, rfl, (by have e : _ = its_RESERVED.size := v_RESERVED.length.trans Array.length_toList; rw [← e]; decide), v_RESERVED⟩, n_ElseputError := g_ElseputError, n_BadName := g_BadName, n_UnknownName := g_UnknownName, n_UnknownKey := g_UnknownKey, n_UnknownField := g_UnknownField, n_UnknownShape := g_UnknownShape, n_BadOrder := g_BadOrder, n_KeyOrder := g_KeyOrder, x_BadName := ⟨XK_BadName.no, XK_BadName.xf, XK_BadName.is⟩, x_UnknownName := ⟨XK_UnknownName.no, XK_UnknownName.xf, XK_UnknownName.is⟩, x_BadOrder := ⟨XK_BadOrder.no, XK_BadOrder.xf, XK_BadOrder.is⟩, x_UnknownKey := ⟨XK_UnknownKey.no, XK_UnknownKey.xf, XK_UnknownKey.is⟩, cl_KeyOrder := ⟨pg_KeyOrder, hx_KeyOrder, po_KeyOrder, st_KeyOrder⟩, rd_KeyOrder := ⟨rr_KeyOrder, rg_KeyOrder⟩, na_KeyOrder_names := na_KeyOrder_names, m_BadName_ElseputError := PySem.W.exm_ref mb_ElseputError md_ElseputError mt_ElseputError ms_BadName_ElseputError, m_BadName_UnknownKey := PySem.W.exm_ref mb_UnknownKey md_UnknownKey mt_UnknownKey ms_BadName_UnknownKey, m_BadOrder_ElseputError := PySem.W.exm_ref mb_ElseputError md_ElseputError mt_ElseputError ms_BadOrder_ElseputError, m_BadOrder_UnknownKey := PySem.W.exm_ref mb_UnknownKey md_UnknownKey mt_UnknownKey ms_BadOrder_UnknownKey, m_UnknownKey_ElseputError := PySem.W.exm_ref mb_ElseputError md_ElseputError mt_ElseputError ms_UnknownKey_ElseputError, m_UnknownKey_UnknownKey := PySem.W.exm_ref mb_UnknownKey md_UnknownKey mt_UnknownKey ms_UnknownKey_UnknownKey, k_BadName_BadName := kit_BadName_BadName, k_BadName_BadOrder := kit_BadName_BadOrder, k_BadName_UnknownName := kit_BadName_UnknownName, k_BadName_ValueError := kit_BadName_ValueError, k_BadName_UnknownField := kit_BadName_UnknownField, k_BadName_UnknownShape := kit_BadName_UnknownShape, k_BadOrder_BadName := kit_BadOrder_BadName, k_BadOrder_BadOrder := kit_BadOrder_BadOrder, k_BadOrder_UnknownName := kit_BadOrder_UnknownName, k_BadOrder_ValueError := kit_BadOrder_ValueError, k_BadOrder_UnknownField := kit_BadOrder_UnknownField, k_BadOrder_UnknownShape := kit_BadOrder_UnknownShape, k_UnknownKey_BadName := kit_UnknownKey_BadName, k_UnknownKey_BadOrder := kit_UnknownKey_BadOrder, k_UnknownKey_UnknownName := kit_UnknownKey_UnknownName, k_UnknownKey_ValueError := kit_UnknownKey_ValueError, k_UnknownKey_UnknownField := kit_UnknownKey_UnknownField, k_UnknownKey_UnknownShape := kit_UnknownKey_UnknownShape }
  have F_is_name := fun_mk (st := s_is_name) l_is_name c_is_name k_is_name
  have b_is_name := F_is_name.binds (ps := ["text"]) fun _ _ _ _ _ _ us hl => match us, hl with | [_], _ => rfl
  have F_check_name := fun_mk (st := s_check_name) l_check_name c_check_name k_check_name
  have b_check_name := F_check_name.binds (ps := ["text"]) fun _ _ _ _ _ _ us hl => match us, hl with | [_], _ => rfl
  have F__law_state := fun_mk (st := s__law_state) l__law_state c__law_state k__law_state
  have b__law_state := F__law_state.binds (ps := ["_law_script"]) fun _ _ _ _ _ _ us hl => match us, hl with | [_], _ => rfl
  have F__law_draw := fun_mk (st := s__law_draw) l__law_draw c__law_draw k__law_draw
  have b__law_draw := F__law_draw.binds (ps := ["_law_state_here", "_law_many"]) fun _ _ _ _ _ _ us hl => match us, hl with | [_, _], _ => rfl
  have F__law_pick := fun_mk (st := s__law_pick) l__law_pick c__law_pick k__law_pick
  have b__law_pick := F__law_pick.binds (ps := ["_law_state_here", "_law_row"]) fun _ _ _ _ _ _ us hl => match us, hl with | [_, _], _ => rfl
  have F__law_mixed := fun_mk (st := s__law_mixed) l__law_mixed c__law_mixed k__law_mixed
  have b__law_mixed := F__law_mixed.binds (ps := ["_law_state_here", "_law_row"]) fun _ _ _ _ _ _ us hl => match us, hl with | [_, _], _ => rfl
  have F__law_names := fun_mk (st := s__law_names) l__law_names c__law_names k__law_names
  have b__law_names := F__law_names.binds (ps := ["_law_state_here", "_law_many"]) fun _ _ _ _ _ _ us hl => match us, hl with | [_, _], _ => rfl
  have F__law_is_int := fun_mk (st := s__law_is_int) l__law_is_int c__law_is_int k__law_is_int
  have b__law_is_int := F__law_is_int.binds (ps := ["_law_thing"]) fun _ _ _ _ _ _ us hl => match us, hl with | [_], _ => rfl
  have F__law_same := fun_mk (st := s__law_same) l__law_same c__law_same k__law_same
  have b__law_same := F__law_same.binds (ps := ["_law_actual", "_law_due_here"]) fun _ _ _ _ _ _ us hl => match us, hl with | [_, _], _ => rfl
  have F__law_bad_name := fun_mk (st := s__law_bad_name) l__law_bad_name c__law_bad_name k__law_bad_name
  have b__law_bad_name := F__law_bad_name.binds (ps := ["_law_state_here", "_law_good"]) fun _ _ _ _ _ _ us hl => match us, hl with | [_, _], _ => rfl
  have F_KeyOrder___init__ := fun_mk (st := s_KeyOrder___init__) l_KeyOrder___init__ c_KeyOrder___init__ k_KeyOrder___init__
  have b_KeyOrder___init__ := F_KeyOrder___init__.binds (ps := ["self", "names"]) fun _ _ _ _ _ _ us hl => match us, hl with | [_, _], _ => rfl
  have F__law_try := fun_mk (st := s__law_try) l__law_try c__law_try k__law_try
  have b__law_try := F__law_try.binds (ps := ["_law_row"]) fun _ _ _ _ _ _ us hl => match us, hl with | [_], _ => rfl
  have F__law_due := fun_mk (st := s__law_due) l__law_due c__law_due k__law_due
  have b__law_due := F__law_due.binds (ps := ["_law_row", "_law_names_here"]) fun _ _ _ _ _ _ us hl => match us, hl with | [_, _], _ => rfl
  have F_KeyOrder___getitem__ := fun_mk (st := s_KeyOrder___getitem__) l_KeyOrder___getitem__ c_KeyOrder___getitem__ k_KeyOrder___getitem__
  have b_KeyOrder___getitem__ := F_KeyOrder___getitem__.binds (ps := ["self", "name"]) fun _ _ _ _ _ _ us hl => match us, hl with | [_, _], _ => rfl
  have F__law_rank := fun_mk (st := s__law_rank) l__law_rank c__law_rank k__law_rank
  have b__law_rank := F__law_rank.binds (ps := ["_law_order", "_law_name"]) fun _ _ _ _ _ _ us hl => match us, hl with | [_, _], _ => rfl
  have F_KeyOrder___call__ := fun_mk (st := s_KeyOrder___call__) l_KeyOrder___call__ c_KeyOrder___call__ k_KeyOrder___call__
  have b_KeyOrder___call__ := F_KeyOrder___call__.binds (ps := ["self", "names"]) fun _ _ _ _ _ _ us hl => match us, hl with | [_, _], _ => rfl
  have F__law_sort := fun_mk (st := s__law_sort) l__law_sort c__law_sort k__law_sort
  have b__law_sort := F__law_sort.binds (ps := ["_law_order", "_law_row"]) fun _ _ _ _ _ _ us hl => match us, hl with | [_, _], _ => rfl
  have F__law_sort_due := fun_mk (st := s__law_sort_due) l__law_sort_due c__law_sort_due k__law_sort_due
  have b__law_sort_due := F__law_sort_due.binds (ps := ["_law_row", "_law_wanted"]) fun _ _ _ _ _ _ us hl => match us, hl with | [_, _], _ => rfl
  have F_KeyOrder___contains__ := fun_mk (st := s_KeyOrder___contains__) l_KeyOrder___contains__ c_KeyOrder___contains__ k_KeyOrder___contains__
  have b_KeyOrder___contains__ := F_KeyOrder___contains__.binds (ps := ["self", "name"]) fun _ _ _ _ _ _ us hl => match us, hl with | [_, _], _ => rfl
  have F_KeyOrder___iter__ := fun_mk (st := s_KeyOrder___iter__) l_KeyOrder___iter__ c_KeyOrder___iter__ k_KeyOrder___iter__
  have b_KeyOrder___iter__ := F_KeyOrder___iter__.binds (ps := ["self"]) fun _ _ _ _ _ _ us hl => match us, hl with | [_], _ => rfl
  have F_KeyOrder___len__ := fun_mk (st := s_KeyOrder___len__) l_KeyOrder___len__ c_KeyOrder___len__ k_KeyOrder___len__
  have b_KeyOrder___len__ := F_KeyOrder___len__.binds (ps := ["self"]) fun _ _ _ _ _ _ us hl => match us, hl with | [_], _ => rfl
  have F__law_fits := fun_mk (st := s__law_fits) l__law_fits c__law_fits k__law_fits
  have b__law_fits := F__law_fits.binds (ps := ["_law_order", "_law_row", "_law_asked"]) fun _ _ _ _ _ _ us hl => match us, hl with | [_, _, _], _ => rfl
  have F_law := fun_mk (st := s_law) l_law c_law k_law
  have b_law := F_law.binds (ps := ["_law_script"]) fun _ _ _ _ _ _ us hl => match us, hl with | [_], _ => rfl
  refine ⟨PySem.W.fnOf "law" "law" (defArgs s_law) (defBody s_law) (defScope s_law) .none kV_law dc_law pm_law an_law cd_law ct_law, fun s v => .of_eq rfl, fun base _ _ => ?_⟩
  have C_BadName : CalE l.prog w K mg base 1 "BadName" a_BadName f_BadName _ ["self", "name"] okx_BadName fs_BadName ["name"] := ⟨ok_BadName XK_BadName lf_BadName cd_BadName lc_BadName v2_BadName fe_BadName lcc_BadName hD_BadName (PySem.W.mg_none_of X G z_super) st_any htop, .all fun us hl => (match us, hl with | [_, _], _ => rfl), XK_BadName, PySem.W.mg_of X G g_BadName⟩
  have C_BadOrder : CalE0 l.prog w K mg base 1 "BadOrder" a_BadOrder f_BadOrder _ ["self"] := ⟨ok_BadOrder XK_BadOrder lf_BadOrder cd_BadOrder lc_BadOrder v2_BadOrder fe_BadOrder lcc_BadOrder hD_BadOrder (PySem.W.mg_none_of X G z_super) st_any htop, .all fun us hl => (match us, hl with | [_], _ => rfl), XK_BadOrder, PySem.W.mg_of X G g_BadOrder⟩
  have C_UnknownKey : CalEI l.prog w K mg base 1 "UnknownKey" a_UnknownKey f_UnknownKey _ ["self", "name"] okx_UnknownKey fs_UnknownKey ["name"] := ⟨ok_UnknownKey XK_UnknownKey lf_UnknownKey cd_UnknownKey lc_UnknownKey v2_UnknownKey fe_UnknownKey lcc_UnknownKey hD_UnknownKey (PySem.W.mg_none_of X G z_super) st_any htop, .all fun us hl => (match us, hl with | [_, _], _ => rfl), ⟨_, XK_UnknownKey⟩, PySem.W.mg_of X G g_UnknownKey⟩
  have C_is_name : Cal l.prog w K mg base CX0 1 "is_name" f_is_name _ ["text"] (sp_is_name K) := ⟨ok_is_name F_is_name T, b_is_name, k_is_name, PySem.W.mg_of X G a_is_name⟩
  have C_check_name : Cal l.prog w K mg base (L2.CX l.prog w) 3 "check_name" f_check_name _ ["text"] (sp_check_name K) := ⟨ok_check_name F_check_name T C_is_name C_BadName, b_check_name, k_check_name, PySem.W.mg_of X G a_check_name⟩
  have C__law_state : Cal l.prog w K mg base CX0 1 "_law_state" f__law_state _ ["_law_script"] (sp__law_state K) := ⟨ok__law_state F__law_state T, b__law_state, k__law_state, PySem.W.mg_of X G a__law_state⟩
  have C__law_draw : Cal l.prog w K mg base CX0 1 "_law_draw" f__law_draw _ ["_law_state_here", "_law_many"] (sp__law_draw K) := ⟨ok__law_draw F__law_draw T, b__law_draw, k__law_draw, PySem.W.mg_of X G a__law_draw⟩
  have C__law_pick : Cal l.prog w K mg base CX0 2 "_law_pick" f__law_pick _ ["_law_state_here", "_law_row"] (sp__law_pick K) := ⟨ok__law_pick F__law_pick T C__law_draw, b__law_pick, k__law_pick, PySem.W.mg_of X G a__law_pick⟩
  have C__law_mixed : Cal l.prog w K mg base CX0 2 "_law_mixed" f__law_mixed _ ["_law_state_here", "_law_row"] (sp__law_mixed K) := ⟨ok__law_mixed F__law_mixed T C__law_draw, b__law_mixed, k__law_mixed, PySem.W.mg_of X G a__law_mixed⟩
  have C__law_names : Cal l.prog w K mg base CX0 2 "_law_names" f__law_names _ ["_law_state_here", "_law_many"] (sp__law_names K) := ⟨ok__law_names F__law_names T C__law_draw, b__law_names, k__law_names, PySem.W.mg_of X G a__law_names⟩
  have C__law_is_int : Cal l.prog w K mg base CX0 1 "_law_is_int" f__law_is_int _ ["_law_thing"] (sp__law_is_int K) := ⟨ok__law_is_int F__law_is_int T, b__law_is_int, k__law_is_int, PySem.W.mg_of X G a__law_is_int⟩
  have C__law_same : Cal l.prog w K mg base CX0 6 "_law_same" f__law_same _ ["_law_actual", "_law_due_here"] (sp__law_same K) := ⟨ok__law_same F__law_same T C__law_is_int b__law_same k__law_same (PySem.W.mg_of X G a__law_same), b__law_same, k__law_same, PySem.W.mg_of X G a__law_same⟩
  have C__law_bad_name : Cal l.prog w K mg base CX0 3 "_law_bad_name" f__law_bad_name _ ["_law_state_here", "_law_good"] (sp__law_bad_name K) := ⟨ok__law_bad_name F__law_bad_name T C__law_draw C__law_pick, b__law_bad_name, k__law_bad_name, PySem.W.mg_of X G a__law_bad_name⟩
  have C_KeyOrder___init__ : CalI l.prog w K mg base (L2.CX l.prog w) 4 "KeyOrder" a_KeyOrder f_KeyOrder___init__ _ ["self", "names"] (sp_KeyOrder___init__ K) := ⟨⟨ok_KeyOrder___init__ F_KeyOrder___init__ T C_check_name C_BadOrder, b_KeyOrder___init__⟩, ⟨mi_KeyOrder, fa_KeyOrder___init__, fn_KeyOrder___init__, ko_KeyOrder⟩, PySem.W.mg_of X G g_KeyOrder⟩
  have C__law_try : Cal l.prog w K mg base CX0 6 "_law_try" f__law_try _ ["_law_row"] (sp__law_try K) := ⟨ok__law_try F__law_try T C_KeyOrder___init__, b__law_try, k__law_try, PySem.W.mg_of X G a__law_try⟩
  have C__law_due : Cal l.prog w K mg base CX0 1 "_law_due" f__law_due _ ["_law_row", "_law_names_here"] (sp__law_due K) := ⟨ok__law_due F__law_due T, b__law_due, k__law_due, PySem.W.mg_of X G a__law_due⟩
  have C_KeyOrder___getitem__ : CalSub l.prog w K mg base (L2.CX l.prog w) 3 a_KeyOrder f_KeyOrder___getitem__ _ ["self", "name"] (sp_KeyOrder___getitem__ K) := ⟨⟨ok_KeyOrder___getitem__ F_KeyOrder___getitem__ T C_UnknownKey, b_KeyOrder___getitem__⟩, ⟨fa_KeyOrder___getitem__, fn_KeyOrder___getitem__, fi_KeyOrder___getitem__⟩⟩
  have C__law_rank : Cal l.prog w K mg base CX0 5 "_law_rank" f__law_rank _ ["_law_order", "_law_name"] (sp__law_rank K) := ⟨ok__law_rank F__law_rank T C_KeyOrder___getitem__, b__law_rank, k__law_rank, PySem.W.mg_of X G a__law_rank⟩
  have C_KeyOrder___call__ : CalC l.prog w K mg base (L2.CX l.prog w) 3 a_KeyOrder f_KeyOrder___call__ _ ["self", "names"] (sp_KeyOrder___call__ K) := ⟨⟨ok_KeyOrder___call__ F_KeyOrder___call__ T C_UnknownKey, b_KeyOrder___call__⟩, ⟨fa_KeyOrder___call__, fn_KeyOrder___call__, fi_KeyOrder___call__⟩⟩
  have C__law_sort : Cal l.prog w K mg base CX0 4 "_law_sort" f__law_sort _ ["_law_order", "_law_row"] (sp__law_sort K) := ⟨ok__law_sort F__law_sort T C_KeyOrder___call__, b__law_sort, k__law_sort, PySem.W.mg_of X G a__law_sort⟩
  have C__law_sort_due : Cal l.prog w K mg base CX0 1 "_law_sort_due" f__law_sort_due _ ["_law_row", "_law_wanted"] (sp__law_sort_due K) := ⟨ok__law_sort_due F__law_sort_due T, b__law_sort_due, k__law_sort_due, PySem.W.mg_of X G a__law_sort_due⟩
  have C_KeyOrder___contains__ : CalIn l.prog w K mg base CX0 1 a_KeyOrder f_KeyOrder___contains__ _ ["self", "name"] (sp_KeyOrder___contains__ K) := ⟨⟨ok_KeyOrder___contains__ F_KeyOrder___contains__ T, b_KeyOrder___contains__⟩, ⟨fa_KeyOrder___contains__, fn_KeyOrder___contains__⟩⟩
  have C_KeyOrder___iter__ : CalIt l.prog w K mg base CX0 1 a_KeyOrder f_KeyOrder___iter__ (sp_KeyOrder___iter__ K) := ⟨ok_KeyOrder___iter__ F_KeyOrder___iter__ b_KeyOrder___iter__ T, ⟨fa_KeyOrder___iter__, fn_KeyOrder___iter__⟩⟩
  have C_KeyOrder___len__ : CalL l.prog w K mg base CX0 1 a_KeyOrder f_KeyOrder___len__ _ ["self"] (sp_KeyOrder___len__ K) := ⟨⟨ok_KeyOrder___len__ F_KeyOrder___len__ T, b_KeyOrder___len__⟩, ⟨fa_KeyOrder___len__, fn_KeyOrder___len__⟩⟩
  have C__law_fits : Cal l.prog w K mg base CX0 8 "_law_fits" f__law_fits _ ["_law_order", "_law_row", "_law_asked"] (sp__law_fits K) := ⟨ok__law_fits F__law_fits T C__law_same C__law_rank C_KeyOrder___contains__ C_KeyOrder___iter__ C_KeyOrder___len__, b__law_fits, k__law_fits, PySem.W.mg_of X G a__law_fits⟩
  exact ok_law F_law T C__law_state C__law_names C__law_bad_name C__law_due C__law_mixed C__law_sort C__law_same C__law_pick C__law_draw C__law_fits C__law_sort_due C__law_try C_KeyOrder___init__
theorem walk {l : PySem.W.OpenLaw} {q : Program} {loose : List Str} {XP : (Str → Option Value) → Heap → Prop} {YP : World → Heap → Prop} {d : DefRec} {K : Params → PySem.W.Frag} (hn : l.most = some 63) (hdf : d.params.defaults = [])
    (hY : ∀ (w : World) (h : Heap), YP w h → (K w.params).In h)
    (F : ∀ (w : World) (mg : Str → Option Value) (fa : Addr) (h : Heap), (K w.params).In h → h.Ns mainGlobals mg → mg d.name = some (.ref fa) →
      ∃ fd : FuncData, (∀ (s : Shared) (u : Value), BindsTo s fd ⟨[u], []⟩ [("_law_script", u)]) ∧ ∀ base : Heap, (K w.params).In base → base.Ns mainGlobals mg → FnOk l.prog w (K w.params) mg base CX0 10 fa fd ["_law_script"] (spLaw (K w.params))) :
    PySem.W.WalkO q loose XP YP l.row.toRowW d [] (fun f vs => PySem.call f vs) :=
  L2.walk_of (n := 63) (k := 10) (x := "_law_script") (CX := fun _ => CX0) (sp := fun w => spLaw (K w.params)) hn (by decide) hdf ⟨rfl, by decide, by decide⟩ hY F (fun _ _ a ns hl _ hS => ⟨a, ns, rfl, hS, hl, fun _ => rfl⟩) fun _ _ _ _ _ z => z
end K24
open PySem PySem.W PyProof.Rows
set_option maxRecDepth 100000 in
set_option maxHeartbeats 0 in
theorem PySem.Challenge.cw_elseput_k24_order_of_names_holds : PySem.Challenge.rw_elseput_k24_order_of_names.Holds := by
  w_on; o_law; k_head; (case hw => w_witness2)
  k_fill
  refine K24.walk (l := PySem.Challenge.rw_elseput_k24_order_of_names) rfl rfl (fun w h Y => PySem.W.kIn_of Y) ?F
  case F =>
    intro w mg fa h KX G hmg
    refine' K24.all_mk KX G hmg ?g_KeyOrder ?pg_KeyOrder ?hx_KeyOrder ?po_KeyOrder ?st_KeyOrder ?rr_KeyOrder ?rg_KeyOrder ?mi_KeyOrder ?ko_KeyOrder ?sf_KeyOrder ?na_KeyOrder_names ?a_is_name ?l_is_name ?c_is_name ?k_is_name ?a_check_name ?l_check_name ?c_check_name ?k_check_name ?a__law_state ?l__law_state ?c__law_state ?k__law_state ?a__law_draw ?l__law_draw ?c__law_draw ?k__law_draw ?a__law_pick ?l__law_pick ?c__law_pick ?k__law_pick ?a__law_mixed ?l__law_mixed ?c__law_mixed ?k__law_mixed ?a__law_names ?l__law_names ?c__law_names ?k__law_names ?a__law_is_int ?l__law_is_int ?c__law_is_int ?k__law_is_int ?a__law_same ?l__law_same ?c__law_same ?k__law_same ?a__law_bad_name ?l__law_bad_name ?c__law_bad_name ?k__law_bad_name ?fa_KeyOrder___init__ ?fn_KeyOrder___init__ ?l_KeyOrder___init__ ?c_KeyOrder___init__ ?k_KeyOrder___init__ ?a__law_try ?l__law_try ?c__law_try ?k__law_try ?a__law_due ?l__law_due ?c__law_due ?k__law_due ?fa_KeyOrder___getitem__ ?fn_KeyOrder___getitem__ ?fi_KeyOrder___getitem__ ?l_KeyOrder___getitem__ ?c_KeyOrder___getitem__ ?k_KeyOrder___getitem__ ?a__law_rank ?l__law_rank ?c__law_rank ?k__law_rank ?fa_KeyOrder___call__ ?fn_KeyOrder___call__ ?fi_KeyOrder___call__ ?l_KeyOrder___call__ ?c_KeyOrder___call__ ?k_KeyOrder___call__ ?a__law_sort ?l__law_sort ?c__law_sort ?k__law_sort ?a__law_sort_due ?l__law_sort_due ?c__law_sort_due ?k__law_sort_due ?fa_KeyOrder___contains__ ?fn_KeyOrder___contains__ ?l_KeyOrder___contains__ ?c_KeyOrder___contains__ ?k_KeyOrder___contains__ ?fa_KeyOrder___iter__ ?fn_KeyOrder___iter__ ?l_KeyOrder___iter__ ?c_KeyOrder___iter__ ?k_KeyOrder___iter__ ?fa_KeyOrder___len__ ?fn_KeyOrder___len__ ?l_KeyOrder___len__ ?c_KeyOrder___len__ ?k_KeyOrder___len__ ?a__law_fits ?l__law_fits ?c__law_fits ?k__law_fits ?a_law ?l_law ?c_law ?k_law ?z_ValueError ?z_all ?z_bool ?z_dict ?z_enumerate ?z_int ?z_isinstance ?z_iter ?z_len ?z_list ?z_range ?z_set ?z_str ?z_super ?z_tuple ?g_LETTERS ?g_LONGEST_NAME ?g_RESERVED ?l_RESERVED ?v_RESERVED ?g_BadName ?g_BadOrder ?g_ElseputError ?g_UnknownField ?g_UnknownKey ?g_UnknownName ?g_UnknownShape ?st_any ?htop ?xc_BadName ?ref_BadName ?sa_BadName ?eb_BadName ?ty_BadName ?kC_BadName ?iC_BadName ?tI_BadName ?sup_BadName ?sv_BadName ?mro_BadName ?no0_BadName ?ga_BadName ?gg_BadName ?hd_BadName ?hcl_BadName ?hn_BadName ?ht_BadName ?hm_BadName ?lf_BadName ?cd_BadName ?lc_BadName ?v2_BadName ?fe_BadName ?lcc_BadName ?hD_BadName ?xc_UnknownName ?ref_UnknownName ?sa_UnknownName ?eb_UnknownName ?ty_UnknownName ?kC_UnknownName ?iC_UnknownName ?tI_UnknownName ?sup_UnknownName ?sv_UnknownName ?mro_UnknownName ?no0_UnknownName ?ga_UnknownName ?gg_UnknownName ?hd_UnknownName ?hcl_UnknownName ?hn_UnknownName ?ht_UnknownName ?hm_UnknownName ?lf_UnknownName ?cd_UnknownName ?lc_UnknownName ?v2_UnknownName ?fe_UnknownName ?lcc_UnknownName ?hD_UnknownName ?xc_BadOrder ?ref_BadOrder ?sa_BadOrder ?eb_BadOrder ?ty_BadOrder ?kC_BadOrder ?iC_BadOrder ?tI_BadOrder ?sup_BadOrder ?sv_BadOrder ?mro_BadOrder ?ga_BadOrder ?gg_BadOrder ?hd_BadOrder ?hcl_BadOrder ?hn_BadOrder ?ht_BadOrder ?hm_BadOrder ?lf_BadOrder ?cd_BadOrder ?lc_BadOrder ?v2_BadOrder ?fe_BadOrder ?lcc_BadOrder ?hD_BadOrder ?xc_UnknownKey ?ref_UnknownKey ?sa_UnknownKey ?eb_UnknownKey ?ty_UnknownKey ?kC_UnknownKey ?iC_UnknownKey ?tI_UnknownKey ?sv_UnknownKey ?no0_UnknownKey ?ga_UnknownKey ?gg_UnknownKey ?hd_UnknownKey ?hcl_UnknownKey ?hn_UnknownKey ?ht_UnknownKey ?hm_UnknownKey ?lf_UnknownKey ?cd_UnknownKey ?lc_UnknownKey ?v2_UnknownKey ?fe_UnknownKey ?lcc_UnknownKey ?sup_UnknownKey ?mro_UnknownKey ?hD_UnknownKey ?mb_ElseputError ?md_ElseputError ?mt_ElseputError ?mb_UnknownKey ?md_UnknownKey ?mt_UnknownKey ?ms_BadName_ElseputError ?ms_BadName_UnknownKey ?ms_BadOrder_ElseputError ?ms_BadOrder_UnknownKey ?ms_UnknownKey_ElseputError ?ms_UnknownKey_UnknownKey ?kit_BadName_BadName ?kit_BadName_BadOrder ?kit_BadName_UnknownName ?kit_BadName_ValueError ?kit_BadName_UnknownField ?kit_BadName_UnknownShape ?kit_BadOrder_BadName ?kit_BadOrder_BadOrder ?kit_BadOrder_UnknownName ?kit_BadOrder_ValueError ?kit_BadOrder_UnknownField ?kit_BadOrder_UnknownShape ?kit_UnknownKey_BadName ?kit_UnknownKey_BadOrder ?kit_UnknownKey_UnknownName ?kit_UnknownKey_ValueError ?kit_UnknownKey_UnknownField ?kit_UnknownKey_UnknownShape
    (case g_KeyOrder => k_is)
    (case pg_KeyOrder => k_is)
    (case hx_KeyOrder => k_is)
    (case po_KeyOrder => k_is)
    (case st_KeyOrder => k_is)
    (case rr_KeyOrder => k_is)
    (case rg_KeyOrder => k_is)
    (case mi_KeyOrder => k_is)
    (case ko_KeyOrder => k_is)
    (case sf_KeyOrder => k_is)
    (case na_KeyOrder_names => k_is)
    (case a_is_name => k_is)
    (case l_is_name => k_is)
    (case c_is_name => k_is)
    (case k_is_name => k_is)
    (case a_check_name => k_is)
    (case l_check_name => k_is)
    (case c_check_name => k_is)
    (case k_check_name => k_is)
    (case a__law_state => k_is)
    (case l__law_state => k_is)
    (case c__law_state => k_is)
    (case k__law_state => k_is)
    (case a__law_draw => k_is)
    (case l__law_draw => k_is)
    (case c__law_draw => k_is)
    (case k__law_draw => k_is)
    (case a__law_pick => k_is)
    (case l__law_pick => k_is)
    (case c__law_pick => k_is)
    (case k__law_pick => k_is)
    (case a__law_mixed => k_is)
    (case l__law_mixed => k_is)
    (case c__law_mixed => k_is)
    (case k__law_mixed => k_is)
    (case a__law_names => k_is)
    (case l__law_names => k_is)
    (case c__law_names => k_is)
    (case k__law_names => k_is)
    (case a__law_is_int => k_is)
    (case l__law_is_int => k_is)
    (case c__law_is_int => k_is)
    (case k__law_is_int => k_is)
    (case a__law_same => k_is)
    (case l__law_same => k_is)
    (case c__law_same => k_is)
    (case k__law_same => k_is)
    (case a__law_bad_name => k_is)
    (case l__law_bad_name => k_is)
    (case c__law_bad_name => k_is)
    (case k__law_bad_name => k_is)
    (case fa_KeyOrder___init__ => k_is)
    (case fn_KeyOrder___init__ => k_is)
    (case l_KeyOrder___init__ => k_is)
    (case c_KeyOrder___init__ => k_is)
    (case k_KeyOrder___init__ => k_is)
    (case a__law_try => k_is)
    (case l__law_try => k_is)
    (case c__law_try => k_is)
    (case k__law_try => k_is)
    (case a__law_due => k_is)
    (case l__law_due => k_is)
    (case c__law_due => k_is)
    (case k__law_due => k_is)
    (case fa_KeyOrder___getitem__ => k_is)
    (case fn_KeyOrder___getitem__ => k_is)
    (case fi_KeyOrder___getitem__ => k_is)
    (case l_KeyOrder___getitem__ => k_is)
    (case c_KeyOrder___getitem__ => k_is)
    (case k_KeyOrder___getitem__ => k_is)
    (case a__law_rank => k_is)
    (case l__law_rank => k_is)
    (case c__law_rank => k_is)
    (case k__law_rank => k_is)
    (case fa_KeyOrder___call__ => k_is)
    (case fn_KeyOrder___call__ => k_is)
    (case fi_KeyOrder___call__ => k_is)
    (case l_KeyOrder___call__ => k_is)
    (case c_KeyOrder___call__ => k_is)
    (case k_KeyOrder___call__ => k_is)
    (case a__law_sort => k_is)
    (case l__law_sort => k_is)
    (case c__law_sort => k_is)
    (case k__law_sort => k_is)
    (case a__law_sort_due => k_is)
    (case l__law_sort_due => k_is)
    (case c__law_sort_due => k_is)
    (case k__law_sort_due => k_is)
    (case fa_KeyOrder___contains__ => k_is)
    (case fn_KeyOrder___contains__ => k_is)
    (case l_KeyOrder___contains__ => k_is)
    (case c_KeyOrder___contains__ => k_is)
    (case k_KeyOrder___contains__ => k_is)
    (case fa_KeyOrder___iter__ => k_is)
    (case fn_KeyOrder___iter__ => k_is)
    (case l_KeyOrder___iter__ => k_is)
    (case c_KeyOrder___iter__ => k_is)
    (case k_KeyOrder___iter__ => k_is)
    (case fa_KeyOrder___len__ => k_is)
    (case fn_KeyOrder___len__ => k_is)
    (case l_KeyOrder___len__ => k_is)
    (case c_KeyOrder___len__ => k_is)
    (case k_KeyOrder___len__ => k_is)
    (case a__law_fits => k_is)
    (case l__law_fits => k_is)
    (case c__law_fits => k_is)
    (case k__law_fits => k_is)
    (case a_law => k_is)
    (case l_law => k_is)
    (case c_law => k_is)
    (case k_law => k_is)
    (case z_ValueError => k_is)
    (case z_all => k_is)
    (case z_bool => k_is)
    (case z_dict => k_is)
    (case z_enumerate => k_is)
    (case z_int => k_is)
    (case z_isinstance => k_is)
    (case z_iter => k_is)
    (case z_len => k_is)
    (case z_list => k_is)
    (case z_range => k_is)
    (case z_set => k_is)
    (case z_str => k_is)
    (case z_super => k_is)
    (case z_tuple => k_is)
    (case g_LETTERS => k_is)
    (case g_LONGEST_NAME => k_is)
    (case g_RESERVED => k_is)
    (case l_RESERVED => k_is)
    (case v_RESERVED => (repeat' first | exact .nil | refine .cons ⟨_, rfl⟩ ?_))
    (case g_BadName => k_is)
    (case g_BadOrder => k_is)
    (case g_ElseputError => k_is)
    (case g_UnknownField => k_is)
    (case g_UnknownKey => k_is)
    (case g_UnknownName => k_is)
    (case g_UnknownShape => k_is)
    (case st_any => k_is)
    (case htop => first | rfl | decide +kernel | k_is)
    (case xc_BadName => k_is)
    (case ref_BadName => first | rfl | decide +kernel | k_is)
    (case sa_BadName => k_is)
    (case eb_BadName => k_is)
    (case ty_BadName => k_is)
    (case kC_BadName => k_is)
    (case iC_BadName => k_is)
    (case tI_BadName => k_is)
    (case sup_BadName => ks_is)
    (case sv_BadName => k_is)
    (case mro_BadName => k_is)
    (case no0_BadName => k_is)
    (case ga_BadName => k_is)
    (case gg_BadName => k_is)
    (case hd_BadName => k_is)
    (case hcl_BadName => k_is)
    (case hn_BadName => k_is)
    (case ht_BadName => k_is)
    (case hm_BadName => k_is)
    (case lf_BadName => k_is)
    (case cd_BadName => k_is)
    (case lc_BadName => k_is)
    (case v2_BadName => first | rfl | decide +kernel | k_is)
    (case fe_BadName => first | rfl | decide +kernel | k_is)
    (case lcc_BadName => k_is)
    (case hD_BadName => k_is)
    (case xc_UnknownName => k_is)
    (case ref_UnknownName => first | rfl | decide +kernel | k_is)
    (case sa_UnknownName => k_is)
    (case eb_UnknownName => k_is)
    (case ty_UnknownName => k_is)
    (case kC_UnknownName => k_is)
    (case iC_UnknownName => k_is)
    (case tI_UnknownName => k_is)
    (case sup_UnknownName => ks_is)
    (case sv_UnknownName => k_is)
    (case mro_UnknownName => k_is)
    (case no0_UnknownName => k_is)
    (case ga_UnknownName => k_is)
    (case gg_UnknownName => k_is)
    (case hd_UnknownName => k_is)
    (case hcl_UnknownName => k_is)
    (case hn_UnknownName => k_is)
    (case ht_UnknownName => k_is)
    (case hm_UnknownName => k_is)
    (case lf_UnknownName => k_is)
    (case cd_UnknownName => k_is)
    (case lc_UnknownName => k_is)
    (case v2_UnknownName => first | rfl | decide +kernel | k_is)
    (case fe_UnknownName => first | rfl | decide +kernel | k_is)
    (case lcc_UnknownName => k_is)
    (case hD_UnknownName => k_is)
    (case xc_BadOrder => k_is)
    (case ref_BadOrder => first | rfl | decide +kernel | k_is)
    (case sa_BadOrder => k_is)
    (case eb_BadOrder => k_is)
    (case ty_BadOrder => k_is)
    (case kC_BadOrder => k_is)
    (case iC_BadOrder => k_is)
    (case tI_BadOrder => k_is)
    (case sup_BadOrder => ks_is)
    (case sv_BadOrder => k_is)
    (case mro_BadOrder => k_is)
    (case ga_BadOrder => k_is)
    (case gg_BadOrder => k_is)
    (case hd_BadOrder => k_is)
    (case hcl_BadOrder => k_is)
    (case hn_BadOrder => k_is)
    (case ht_BadOrder => k_is)
    (case hm_BadOrder => k_is)
    (case lf_BadOrder => k_is)
    (case cd_BadOrder => k_is)
    (case lc_BadOrder => k_is)
    (case v2_BadOrder => first | rfl | decide +kernel | k_is)
    (case fe_BadOrder => first | rfl | decide +kernel | k_is)
    (case lcc_BadOrder => k_is)
    (case hD_BadOrder => k_is)
    (case xc_UnknownKey => k_is)
    (case ref_UnknownKey => first | rfl | decide +kernel | k_is)
    (case sa_UnknownKey => k_is)
    (case eb_UnknownKey => k_is)
    (case ty_UnknownKey => k_is)
    (case kC_UnknownKey => k_is)
    (case iC_UnknownKey => k_is)
    (case tI_UnknownKey => k_is)
    (case sv_UnknownKey => k_is)
    (case no0_UnknownKey => k_is)
    (case ga_UnknownKey => k_is)
    (case gg_UnknownKey => k_is)
    (case hd_UnknownKey => k_is)
    (case hcl_UnknownKey => k_is)
    (case hn_UnknownKey => k_is)
    (case ht_UnknownKey => k_is)
    (case hm_UnknownKey => k_is)
    (case lf_UnknownKey => k_is)
    (case cd_UnknownKey => k_is)
    (case lc_UnknownKey => k_is)
    (case v2_UnknownKey => first | rfl | decide +kernel | k_is)
    (case fe_UnknownKey => first | rfl | decide +kernel | k_is)
    (case lcc_UnknownKey => k_is)
    (case sup_UnknownKey => ks_is)
    (case mro_UnknownKey => k_is)
    (case hD_UnknownKey => k_is)
    (case mb_ElseputError => k_is)
    (case md_ElseputError => k_is)
    (case mt_ElseputError => k_is)
    (case mb_UnknownKey => k_is)
    (case md_UnknownKey => k_is)
    (case mt_UnknownKey => k_is)
    (case ms_BadName_ElseputError => k_is)
    (case ms_BadName_UnknownKey => k_is)
    (case ms_BadOrder_ElseputError => k_is)
    (case ms_BadOrder_UnknownKey => k_is)
    (case ms_UnknownKey_ElseputError => k_is)
    (case ms_UnknownKey_UnknownKey => k_is)
    (case kit_BadName_BadName => kit_is)
    (case kit_BadName_BadOrder => kit_is)
    (case kit_BadName_UnknownName => kit_is)
    (case kit_BadName_ValueError => kit_is)
    (case kit_BadName_UnknownField => kit_is)
    (case kit_BadName_UnknownShape => kit_is)
    (case kit_BadOrder_BadName => kit_is)
    (case kit_BadOrder_BadOrder => kit_is)
    (case kit_BadOrder_UnknownName => kit_is)
    (case kit_BadOrder_ValueError => kit_is)
    (case kit_BadOrder_UnknownField => kit_is)
    (case kit_BadOrder_UnknownShape => kit_is)
    (case kit_UnknownKey_BadName => kit_is)
    (case kit_UnknownKey_BadOrder => kit_is)
    (case kit_UnknownKey_UnknownName => kit_is)
    (case kit_UnknownKey_ValueError => kit_is)
    (case kit_UnknownKey_UnknownField => kit_is)
    (case kit_UnknownKey_UnknownShape => kit_is)
