import PyProof.Rows.All
import Wide.All
import OpenK.AllK
import Wide.FinOn
import HandS.ForMost
import HandS.Wide
import HandS.TupAny
import HandS.IsInst
import HandS.Flow
import HandS.Evl
import HandS.Walk
import HandS.ExcInit
import HandS.Nested
import HandS.FStr
import HandS.TryOnly
import HandS.TryMany
import HandS.ExcIs
import HandS.ExcField
import HandS.WordsExc
import HandS.RaiseMore
import KE.KExcSuper
import KE.KExcIs
import PyProof.StrOps2
import PyProof.Rows.ReprOcc
import PyProof.Rows.StrDigits
import PyProof.Rows.StrJoinMade
import HandS.ClsMeth
import HandS.Star
import HandS.Property
import HandS.New
import HandS.ExcOwn
import HandS.More
import HandS.Dict
import HandS.Small
import KE.KOpsOwn
import OpenK.KMeth
import HandS.Conv
import HandS.Finally
import PyProof.StrLawsRepr
import HandS.Defaults
import HandS.Text
import HandS.IterVal
import KE.KOwnIter
import HandS.Strs
import HandS.Iter
import KE.GoesMore
import HandS.TupSets
import KE.Datum
import HandS.MakeKwOnly
import HandS.SetFor
import HandS.Style
import PySem.Challenge.RW_elseput_k30_whole_pairs_and_waste
set_option Elab.async false
set_option linter.all false
set_option maxRecDepth 100000
/-! Own words over the hand layer: readings that compute on the values' shapes. -/
namespace El
open PySem PySem.Spec PyProof.Rows L2
section
variable {X : Cx}

theorem wk {e : Expr} {t t' : TE} (h : PE X e t) (i : ∀ σ H Q, t' σ H Q → t σ H Q) : PE X e t' :=
  ⟨fun pins s σ H Q I q => h.run pins s σ H Q I (i σ H Q q)⟩
theorem opwk {f : Value → Value → Sem Value} {r r' : R2} (h : OpR X f r) (i : ∀ x y H Q, r' x y H Q → r x y H Q) : OpR X f r' :=
  fun pins s σ H x y v u Q I rx ry q => h pins s σ H x y v u Q I rx ry (i x y H Q q)
theorem unwk {f : Value → Sem Value} {r r' : V → Hp → VK → Prop} (h : UnR X f r) (i : ∀ x H Q, r' x H Q → r x H Q) : UnR X f r' :=
  fun pins s σ H x v Q I rx q => h pins s σ H x v Q I rx (i x H Q q)
theorem cwk {f : Value} {r r' : List V → Hp → VK → Prop} (h : CallR X f r) (i : ∀ x H Q, r' x H Q → r x H Q) : CallR X f r' :=
  fun pins s σ H x v Q I rx q => h pins s σ H x v Q I rx (i x H Q q)
theorem ixwk {r r' : R2} (h : IxR X r) (i : ∀ x y H Q, r' x y H Q → r x y H Q) : IxR X r' :=
  fun a b pins s σ H x y v u Q I rx ry q => h a b pins s σ H x y v u Q I rx ry (i x y H Q q)
theorem slwk {r r' : V → Option Int → Option Int → Hp → VK → Prop} (h : SlR X r) (i : ∀ x a b H Q, r' x a b H Q → r x a b H Q) : SlR X r' :=
  fun pins s σ H x v vl vu lo hi sl Q I rx hs pl pu q => h pins s σ H x v vl vu lo hi sl Q I rx hs pl pu (i x lo hi H Q q)

/-! ### a name in its slot -/
def tV (i : Nat) : TE := fun σ H Q => match σ[i]? with | some (some v) => Q v H | _ => False
theorem v_ (i : Nat) {x : Str} {pos : Pos} (hN : X.N[i]? = some x := by rfl) (hv : Vis X.env.scope x := by first | exact Or.inl rfl | exact Or.inr (Or.inl rfl) | exact Or.inr (Or.inr rfl)) (hd : (x == ("__debug__" : Str)) = false := by decide)
    (hcd : (x == ("__classdict__" : Str)) = false := by decide) : PE X (.Name x pos) (tV i) :=
  wk (pv i hN hv hd hcd) fun σ H Q q => by
    unfold tV at q
    split at q
    · rename_i v e; exact ⟨v, e, q⟩
    · exact q.elim

/-! ### operators -/
def addM (K : PySem.W.Frag) : R2 := fun x y H Q => match x, y with
  | .int i, .int j => Q (.int (i + j)) H
  | .str i, .str j => i.length + j.length ≤ sizeLine ∧ Q (.str (i ++ j)) H
  | .ref a, .ref b => (∃ xs zs, H a = some (.lst xs) ∧ H b = some (.lst zs) ∧ xs.length + zs.length ≤ sizeLine ∧ ∀ p, H p = none → Q (.ref p) (upd H p (.lst (xs ++ zs)))) ∨ rCatT K (.ref a) (.ref b) H Q
  | _, _ => False
theorem op_addM : OpR X (binaryOp .Add) (addM X.K) := opwk (OpR.or op_add (OpR.or op_add_str (OpR.or op_cat op_catT))) fun x y H Q q => by
  unfold addM at q
  split at q
  · exact .inl ⟨_, _, rfl, rfl, q⟩
  · exact .inr (.inl ⟨_, _, rfl, rfl, q⟩)
  · rcases q with ⟨xs, zs, h1, h2, h3, h4⟩ | q
    · exact .inr (.inr (.inl ⟨_, _, xs, zs, rfl, rfl, h1, h2, h3, h4⟩))
    · exact .inr (.inr (.inr q))
  · exact q.elim
def subM : R2 := fun x y H Q => match x, y with
  | .int i, .int j => Q (.int (i - j)) H
  | _, _ => False
theorem op_subM : OpR X (binaryOp .Sub) subM := opwk op_sub fun x y H Q q => by
  unfold subM at q
  split at q
  · exact ⟨_, _, rfl, rfl, q⟩
  · exact q.elim
def mulM : R2 := fun x y H Q => match x, y with
  | .int i, .int j => (CMul i j ∨ CMulW i j) ∧ Q (.int (i * j)) H
  | .ref l, .int k => ∃ xs, H l = some (.lst xs) ∧ (-(2 ^ 63) ≤ k ∧ k < 2 ^ 63) ∧ xs.length * k.toNat ≤ sizeLine ∧ ∀ p, H p = none → Q (.ref p) (upd H p (.lst (List.replicate k.toNat xs).flatten))
  | _, _ => False
theorem op_mulM : OpR X (binaryOp .Mult) mulM := opwk (OpR.or op_mul (OpR.or op_mulW op_rep)) fun x y H Q q => by
  unfold mulM at q
  split at q
  · obtain ⟨h | h, q⟩ := q
    · exact .inl ⟨_, _, rfl, rfl, h, q⟩
    · exact .inr (.inl ⟨_, _, rfl, rfl, h, q⟩)
  · obtain ⟨xs, h1, h2, h3, h4⟩ := q
    exact .inr (.inr ⟨_, _, xs, rfl, rfl, h1, h2.1, h2.2, h3, h4⟩)
  · exact q.elim
def divM : R2 := fun x y H Q => match x, y with
  | .int i, .int j => (CDiv i j ∨ CDivW i j) ∧ Q (.int (i / j)) H
  | _, _ => False
theorem op_divM : OpR X (binaryOp .FloorDiv) divM := opwk (OpR.or op_fdiv op_fdivW) fun x y H Q q => by
  unfold divM at q
  split at q
  · obtain ⟨h | h, q⟩ := q
    · exact .inl ⟨_, _, rfl, rfl, h, q⟩
    · exact .inr ⟨_, _, rfl, rfl, h, q⟩
  · exact q.elim
def modM : R2 := fun x y H Q => match x, y with
  | .int i, .int j => 0 < j ∧ Q (.int (i % j)) H
  | _, _ => False
theorem op_modM : OpR X (binaryOp .Mod) modM := opwk op_mod fun x y H Q q => by
  unfold modM at q
  split at q
  · exact ⟨_, _, rfl, rfl, q.1, q.2⟩
  · exact q.elim
def powM : R2 := fun x y H Q => match x, y with
  | .int i, .int j => CPow i j ∧ Q (.int (i ^ j.toNat)) H
  | _, _ => False
theorem op_powM : OpR X (binaryOp .Pow) powM := opwk op_pow fun x y H Q q => by
  unfold powM at q
  split at q
  · exact ⟨_, _, rfl, rfl, q.1, q.2⟩
  · exact q.elim
def negM : V → Hp → VK → Prop := fun x H Q => match x with
  | .int i => Q (.int (-i)) H
  | _ => False
theorem un_negM : UnR X (unaryOp .USub) negM := unwk un_neg fun x H Q q => by
  unfold negM at q
  split at q
  · exact ⟨_, rfl, q⟩
  · exact q.elim

/-! ### comparisons -/
def cmpM (f : Int → Int → Bool) : R2 := fun x y H Q => match x, y with
  | .int i, .int j => Q (.bl (f i j)) H
  | _, _ => False
theorem cmpwk {f : Int → Int → Bool} {g : Value → Value → Sem Value} (h : OpR X g (rI0 fun i j => .bl (f i j))) : OpR X g (cmpM f) := opwk h fun x y H Q q => by
  unfold cmpM at q
  split at q
  · exact ⟨_, _, rfl, rfl, q⟩
  · exact q.elim
theorem op_ltM : OpR X (compareOp .Lt) (cmpM fun i j => decide (i < j)) := cmpwk op_lt
theorem op_leM : OpR X (compareOp .LtE) (cmpM fun i j => decide (i ≤ j)) := cmpwk op_le
theorem op_gtM : OpR X (compareOp .Gt) (cmpM fun i j => decide (j < i)) := cmpwk op_gt
theorem op_geM : OpR X (compareOp .GtE) (cmpM fun i j => decide (j ≤ i)) := cmpwk op_ge
/-- ==: of plain values by the values; else of data -/
def eqM (K : PySem.W.Frag) : R2 := fun x y H Q => match x, y with
  | .int i, .int j => Q (.bl (decide (i = j))) H
  | .str i, .str j => Q (.bl (decide (i = j))) H
  | .bl i, .bl j => Q (.bl (decide (i = j))) H
  | .non, .non => Q (.bl true) H
  | .non, .int _ => Q (.bl false) H
  | .int _, .non => Q (.bl false) H
  | .non, .str _ => Q (.bl false) H
  | .str _, .non => Q (.bl false) H
  | .non, .bl _ => Q (.bl false) H
  | .bl _, .non => Q (.bl false) H
  | .int _, .str _ => Q (.bl false) H
  | .str _, .int _ => Q (.bl false) H
  | .bl _, .str _ => Q (.bl false) H
  | .str _, .bl _ => Q (.bl false) H
  | x, y => rEqD K x y H Q
theorem op_eqM (hu : X.A.units + 64 < cLine) : OpR X (compareOp .Eq) (eqM X.K) := opwk (OpR.or op_eq (op_eqD hu)) fun x y H Q q => by
  unfold eqM at q
  split at q
  all_goals first
    | exact .inl ⟨rfl, by simpa using q⟩
    | exact .inr q
def neM (K : PySem.W.Frag) : R2 := fun x y H Q => match x, y with
  | .int i, .int j => Q (.bl (!decide (i = j))) H
  | .str i, .str j => Q (.bl (!decide (i = j))) H
  | .bl i, .bl j => Q (.bl (!decide (i = j))) H
  | .non, .non => Q (.bl false) H
  | .non, .int _ => Q (.bl true) H
  | .int _, .non => Q (.bl true) H
  | .non, .str _ => Q (.bl true) H
  | .str _, .non => Q (.bl true) H
  | .non, .bl _ => Q (.bl true) H
  | .bl _, .non => Q (.bl true) H
  | .int _, .str _ => Q (.bl true) H
  | .str _, .int _ => Q (.bl true) H
  | .bl _, .str _ => Q (.bl true) H
  | .str _, .bl _ => Q (.bl true) H
  | x, y => rNeD K x y H Q
theorem op_neM (hu : X.A.units + 64 < cLine) : OpR X (compareOp .NotEq) (neM X.K) := opwk (OpR.or op_ne (op_neD hu)) fun x y H Q q => by
  unfold neM at q
  split at q
  all_goals first
    | exact .inl ⟨rfl, by simpa using q⟩
    | exact .inr q
/-- is, is not: None, True, False -/
def isV (x y : V) : Bool := match x, y with
  | .non, .non => true
  | .bl a, .bl b => a == b
  | _, _ => false
def litV (y : V) : Bool := match y with | .non => true | .bl _ => true | _ => false
def isM : R2 := fun x y H Q => match litV y with | true => Q (.bl (isV x y)) H | false => False
def notM : R2 := fun x y H Q => match litV y with | true => Q (.bl (!isV x y)) H | false => False
theorem lit_cases {y : V} (h : litV y = true) : y = .non ∨ ∃ b, y = .bl b := by
  cases y with
  | non => exact .inl rfl
  | bl b => exact .inr ⟨b, rfl⟩
  | _ => exact absurd (show false = true from h) (by decide)
theorem is_other {A : Around} {E : Value → Shared → Prop} {M : Model} {x : V} {v : Value} {b : Bool} {s : Shared} {Q : Value → Shared → Prop} (rx : RelV x v) (h : Q (.bool (isV x (.bl b))) s) : wpAny M A (compareOp .Is v (.bool b)) Q E s := by
  cases x with
  | bl a =>
    cases rx
    by_cases e : a = b
    · subst e; exact wpAny_is_self rfl (by simpa [isV] using h)
    · exact wpAny_is_other rfl (fun z => e (Value.bool.inj z)) (by rw [show isV (.bl a) (.bl b) = false from beq_eq_false_iff_ne.mpr e] at h; exact h)
  | non => cases rx; exact wpAny_is_other rfl (by intro z; cases z) h
  | int i => obtain ⟨t, rfl⟩ := rx; exact wpAny_is_other rfl (by intro z; cases z) h
  | str i => obtain ⟨t, rfl⟩ := rx; exact wpAny_is_other rfl (by intro z; cases z) h
  | byt i => obtain ⟨t, rfl⟩ := rx; exact wpAny_is_other rfl (by intro z; cases z) h
  | flt i => obtain ⟨t, rfl⟩ := rx; exact wpAny_is_other rfl (by intro z; cases z) h
  | ref a => cases rx; exact wpAny_is_other rfl (by intro z; cases z) h
  | ty n => cases rx; exact wpAny_is_other rfl (by intro z; cases z) h
theorem isnot_other {A : Around} {E : Value → Shared → Prop} {M : Model} {x : V} {v : Value} {b : Bool} {s : Shared} {Q : Value → Shared → Prop} (rx : RelV x v) (h : Q (.bool (!isV x (.bl b))) s) : wpAny M A (compareOp .IsNot v (.bool b)) Q E s := by
  cases x with
  | bl a =>
    cases rx
    by_cases e : a = b
    · subst e; exact wpAny_isNot_self rfl (by simpa [isV] using h)
    · exact wpAny_isNot_other rfl (fun z => e (Value.bool.inj z)) (by rw [show isV (.bl a) (.bl b) = false from beq_eq_false_iff_ne.mpr e] at h; exact h)
  | non => cases rx; exact wpAny_isNot_other rfl (by intro z; cases z) h
  | int i => obtain ⟨t, rfl⟩ := rx; exact wpAny_isNot_other rfl (by intro z; cases z) h
  | str i => obtain ⟨t, rfl⟩ := rx; exact wpAny_isNot_other rfl (by intro z; cases z) h
  | byt i => obtain ⟨t, rfl⟩ := rx; exact wpAny_isNot_other rfl (by intro z; cases z) h
  | flt i => obtain ⟨t, rfl⟩ := rx; exact wpAny_isNot_other rfl (by intro z; cases z) h
  | ref a => cases rx; exact wpAny_isNot_other rfl (by intro z; cases z) h
  | ty n => cases rx; exact wpAny_isNot_other rfl (by intro z; cases z) h
theorem isV_non (x : V) : isV x .non = decide (x = .non) := by cases x <;> rfl
theorem op_isM : OpR X (compareOp .Is) isM := by
  intro pins s σ H x y v u Q I rx ry q
  unfold isM at q
  split at q
  · rename_i e
    rcases lit_cases e with rfl | ⟨b, rfl⟩
    · exact op_isN pins s σ H x .non v u Q I rx ry ⟨rfl, by rw [← isV_non]; exact q⟩
    · cases ry
      exact is_other rx ⟨.bl _, H, I, rfl, q⟩
  · exact q.elim
theorem op_isNotM : OpR X (compareOp .IsNot) notM := by
  intro pins s σ H x y v u Q I rx ry q
  unfold notM at q
  split at q
  · rename_i e
    rcases lit_cases e with rfl | ⟨b, rfl⟩
    · exact op_notN pins s σ H x .non v u Q I rx ry ⟨rfl, by rw [← isV_non]; exact q⟩
    · cases ry
      exact isnot_other rx ⟨.bl _, H, I, rfl, q⟩
  · exact q.elim
/-- in: a list or a tuple of plain things; a sign in a text -/
def inM (K : PySem.W.Frag) (neg : Bool) : R2 := fun x y H Q => match y with
  | .str z => ∃ c : Nat, x = .str ⟨#[c]⟩ ∧ Q (.bl (if neg then !decide (c ∈ z.cps.toList) else decide (c ∈ z.cps.toList))) H
  | .ref p => ∃ xs, (SqL K H p xs ∨ SqT K H p xs) ∧ flatV x = true ∧ xs.all flatV = true ∧ Q (.bl (if neg then !inV x xs else inV x xs)) H
  | _ => False
theorem op_inM : OpR X (compareOp .In) (inM X.K false) := opwk (OpR.or op_in_sign op_in_seq) fun x y H Q q => by
  unfold inM at q
  split at q
  · obtain ⟨c, e, q⟩ := q
    exact .inl ⟨c, _, e, rfl, q⟩
  · obtain ⟨xs, h1, h2, h3, q⟩ := q
    exact .inr ⟨_, xs, rfl, h1, h2, h3, q⟩
  · exact q.elim
theorem op_notInM : OpR X (compareOp .NotIn) (inM X.K true) := opwk (OpR.or op_notIn_sign op_notIn_seq) fun x y H Q q => by
  unfold inM at q
  split at q
  · obtain ⟨c, e, q⟩ := q
    exact .inl ⟨c, _, e, rfl, q⟩
  · obtain ⟨xs, h1, h2, h3, q⟩ := q
    exact .inr ⟨_, xs, rfl, h1, h2, h3, q⟩
  · exact q.elim

/-! ### tests -/
variable {a b : Expr} {rest : List Expr} {ta tb : TE} {pos : Pos}
def tTs (t : TE) : TT := fun σ H Q => t σ H fun x H' => match x with | .bl k => Q k H' | _ => False
theorem pt_c {op : CmpOp} {r : R2} (ho : OpR X (compareOp op) r) (ha : PE X a ta) (hb : PE X b tb) (hm : behindInMarks op b = false := by first | exact nomark _ | rfl) : PT X (.Compare a [op] [b] pos) (tTs (tOp r ta tb)) := by
  refine ⟨fun pins s σ H Q I h => ?_⟩
  refine wpAny_isTrue_Compare1 (thn (ha.run pins s σ H _ I h) fun v s1 ⟨x, H1, I1, r1, q1⟩ => thn (hb.run pins s1 σ H1 _ I1 q1) fun u s2 ⟨y, H2, I2, r2, q2⟩ =>
    thn (ho pins s2 σ H2 x y v u _ I2 r1 r2 q2) fun c s3 ⟨z, H3, I3, r3, q3⟩ => ?_) hm
  cases z with
  | bl k => cases r3; exact wpAny_truthy_bool ⟨H3, I3, q3⟩
  | _ => exact (show False from q3).elim
theorem pe_c {op : CmpOp} {r : R2} (ho : OpR X (compareOp op) r) (ha : PE X a ta) (hb : PE X b tb) (hm : behindInMarks op b = false := by first | exact nomark _ | rfl) : PE X (.Compare a [op] [b] pos) (tOp r ta tb) := pe_cmpR ho ha hb hm
/-- any value's truth -/
def tTr (K : PySem.W.Frag) (t : TE) : TT := fun σ H Q => t σ H fun x H' => match x with
  | .bl k => Q k H'
  | .non => Q false H'
  | .int i => Q (i != 0) H'
  | .str y => y.length ≤ sizeLine ∧ Q ((y.length : Int) != 0) H'
  | .ref p => (∃ xs, SqL K H' p xs ∧ Q (!xs.isEmpty) H') ∨ (∃ xs, SqT K H' p xs ∧ Q (!xs.isEmpty) H') ∨ ∃ kvs, H' p = some (.dK kvs) ∧ Q (!kvs.isEmpty) H'
  | _ => False
theorem pt_tr (ha : PE X a ta) (he : ∀ whole, isTrue a X.env whole = (do let v ← whole; standAt a.pos; holding [v] (truthy v)) := by intro _; rfl) : PT X a (tTr X.K ta) := by
  refine ⟨fun pins s σ H Q I h => ?_⟩
  refine isTrue_plain (thn (ha.run pins s σ H _ I h) fun v s1 ⟨x, H1, I1, r1, q1⟩ => tru_ok pins s1 σ H1 x v Q I1 r1 ?_) (he _)
  cases x with
  | bl k => exact ⟨k, rfl, q1⟩
  | non => exact ⟨false, rfl, q1⟩
  | int i => exact ⟨_, rfl, q1⟩
  | str y => exact ⟨_, ⟨q1.1, rfl⟩, q1.2⟩
  | ref p =>
    rcases (show (∃ xs, SqL X.K H1 p xs ∧ Q (!xs.isEmpty) H1) ∨ (∃ xs, SqT X.K H1 p xs ∧ Q (!xs.isEmpty) H1) ∨ ∃ kvs, H1 p = some (.dK kvs) ∧ Q (!kvs.isEmpty) H1 from q1) with ⟨xs, h, q⟩ | ⟨xs, h, q⟩ | ⟨xs, h, q⟩
    · exact ⟨_, .inl ⟨xs, h, rfl⟩, q⟩
    · exact ⟨_, .inr (.inl ⟨xs, h, rfl⟩), q⟩
    · exact ⟨_, .inr (.inr ⟨xs, h, rfl⟩), q⟩
  | _ => exact (show False from q1).elim
def tAndM (ta tb : TE) : TE := fun σ H Q => ta σ H fun x H1 => match x with | .bl c => (if c = true then tb σ H1 Q else Q (.bl false) H1) | _ => False
def tOrM (ta tb : TE) : TE := fun σ H Q => ta σ H fun x H1 => match x with | .bl c => (if c = true then Q (.bl true) H1 else tb σ H1 Q) | _ => False
def tNotM (ta : TE) : TE := fun σ H Q => ta σ H fun x H1 => match x with | .bl c => Q (.bl (!c)) H1 | _ => False
theorem pe_andM (ha : PE X a ta) (hb : PE X (.BoolOp .And (b :: rest) pos) tb) : PE X (.BoolOp .And (a :: b :: rest) pos) (tAndM ta tb) := by
  refine ⟨fun pins s σ H Q I h => ?_⟩
  refine BoolOp_and (thn (ha.run pins s σ H _ I h) fun v s1 ⟨x, H1, I1, r1, q1⟩ => ?_)
  cases x with
  | bl c =>
    cases r1
    refine wpAny_truthy_bool ?_
    cases c with
    | true => exact hb.run pins s1 σ H1 Q I1 q1
    | false => exact ⟨.bl false, H1, I1, rfl, q1⟩
  | _ => exact (show False from q1).elim
theorem pe_orM (ha : PE X a ta) (hb : PE X (.BoolOp .Or (b :: rest) pos) tb) : PE X (.BoolOp .Or (a :: b :: rest) pos) (tOrM ta tb) := by
  refine ⟨fun pins s σ H Q I h => ?_⟩
  refine BoolOp_or (thn (ha.run pins s σ H _ I h) fun v s1 ⟨x, H1, I1, r1, q1⟩ => ?_)
  cases x with
  | bl c =>
    cases r1
    refine wpAny_truthy_bool ?_
    cases c with
    | false => exact hb.run pins s1 σ H1 Q I1 q1
    | true => exact ⟨.bl true, H1, I1, rfl, q1⟩
  | _ => exact (show False from q1).elim
theorem pe_notM (ha : PE X a ta) : PE X (.UnaryOp .Not a pos) (tNotM ta) := by
  refine ⟨fun pins s σ H Q I h => ?_⟩
  refine UnaryOp_ (thn (ha.run pins s σ H _ I h) fun v s1 ⟨x, H1, I1, r1, q1⟩ => ?_)
  cases x with
  | bl c => cases r1; exact not_of (wpAny_truthy_bool ⟨.bl (!c), H1, I1, rfl, q1⟩)
  | _ => exact (show False from q1).elim

/-! ### subscripts, slices, calls of built-ins -/
def ixM (K : PySem.W.Frag) : R2 := fun x y H Q => match x, y with
  | .str z, .int i => z.length ≤ sizeLine ∧ ∃ c, atI z.cps.toList i = some c ∧ Q (.str ⟨#[c]⟩) H
  | .ref p, .int i => ∃ xs, (SqL K H p xs ∨ SqT K H p xs) ∧ ∃ v, atI xs i = some v ∧ Q v H
  | _, _ => False
theorem ix_M : IxR X (ixM X.K) := ixwk ix_seq fun x y H Q q => by
  unfold ixM at q
  split at q
  · obtain ⟨h, c, e, q⟩ := q
    exact .inr (.inr ⟨_, _, c, rfl, rfl, h, e, q⟩)
  · obtain ⟨xs, h | h, v, e, q⟩ := q
    · exact .inl ⟨_, xs, _, v, rfl, rfl, h, e, q⟩
    · exact .inr (.inl ⟨_, xs, _, v, rfl, rfl, h, e, q⟩)
  · exact q.elim
theorem e_ix (ha : PE X a ta) (hb : PE X b tb) (hs : PlainIx b := by intro _ _; rfl) : PE X (.Subscript a b pos) (tOp (ixM X.K) ta tb) := pe_ix ix_M ha hb hs
def slM (K : PySem.W.Frag) : V → Option Int → Option Int → Hp → VK → Prop := fun x lo hi H Q => match x with
  | .str z => z.length ≤ sizeLine ∧ Q (.str (cutS z lo hi)) H
  | .ref p => (∃ xs, SqL K H p xs ∧ ∀ q, H q = none → Q (.ref q) (upd H q (.lst (cutV xs lo hi)))) ∨ rSlT K (.ref p) lo hi H Q
  | _ => False
theorem sl_M : SlR X (slM X.K) := slwk (SlR.or sl_str (SlR.or sl_list sl_tup)) fun x lo hi H Q q => by
  unfold slM at q
  split at q
  · exact .inl ⟨_, rfl, q.1, q.2⟩
  · rcases q with ⟨xs, h, q⟩ | q
    · exact .inr (.inl ⟨_, xs, rfl, h, q⟩)
    · exact .inr (.inr q)
  · exact q.elim
def intM : List V → Hp → VK → Prop := fun xs H Q => match xs with
  | [.int i] => Q (.int i) H
  | [.bl k] => Q (.int (if k then 1 else 0)) H
  | [.str a] => ∃ n, PySem.intText? a = some n ∧ a.length ≤ 640 ∧ Q (.int n) H
  | _ => False
theorem call_intM : CallR X (.type "int") intM := cwk (CallR.or call_int1 call_int_str) fun xs H Q q => by
  unfold intM at q
  split at q
  · exact .inl (.inl ⟨_, rfl, q⟩)
  · exact .inl (.inr ⟨_, rfl, q⟩)
  · obtain ⟨n, h1, h2, q⟩ := q
    exact .inr ⟨_, n, rfl, h1, h2, q⟩
  · exact q.elim
def lenM (K : PySem.W.Frag) : List V → Hp → VK → Prop := fun xs H Q => match xs with
  | [.str z] => z.length ≤ sizeLine ∧ Q (.int z.length) H
  | [.ref p] => (∃ xs, (SqL K H p xs ∨ SqT K H p xs) ∧ Q (.int xs.length) H) ∨ ∃ kvs, H p = some (.dK kvs) ∧ Q (.int kvs.length) H
  | _ => False
theorem call_lenM : CallR X (.builtin "len") (lenM X.K) := cwk (CallR.or call_len_str (CallR.or call_len_seq call_lenD)) fun xs H Q q => by
  unfold lenM at q
  split at q
  · exact .inl ⟨_, rfl, q.1, q.2⟩
  · rcases q with ⟨xs, h, q⟩ | ⟨kvs, h, q⟩
    · exact .inr (.inl ⟨_, xs, rfl, h, q⟩)
    · exact .inr (.inr ⟨_, kvs, rfl, h, q⟩)
  · exact q.elim

/-! ### the same, the written part named -/
theorem addK (K : PySem.W.Frag) (h : X.K = K := by rfl) : OpR X (binaryOp .Add) (addM K) := h ▸ op_addM
theorem eqK (K : PySem.W.Frag) (hu : X.A.units + 64 < cLine) (h : X.K = K := by rfl) : OpR X (compareOp .Eq) (eqM K) := h ▸ op_eqM hu
theorem neK (K : PySem.W.Frag) (hu : X.A.units + 64 < cLine) (h : X.K = K := by rfl) : OpR X (compareOp .NotEq) (neM K) := h ▸ op_neM hu
theorem inK (K : PySem.W.Frag) (h : X.K = K := by rfl) : OpR X (compareOp .In) (inM K false) := h ▸ op_inM
theorem notInK (K : PySem.W.Frag) (h : X.K = K := by rfl) : OpR X (compareOp .NotIn) (inM K true) := h ▸ op_notInM
theorem pt_t (K : PySem.W.Frag) (ha : PE X a ta) (he : ∀ whole, isTrue a X.env whole = (do let v ← whole; standAt a.pos; holding [v] (truthy v)) := by intro _; rfl) (h : X.K = K := by rfl) : PT X a (tTr K ta) := h ▸ pt_tr ha he
theorem e_x (K : PySem.W.Frag) (ha : PE X a ta) (hb : PE X b tb) (hs : PlainIx b := by intro _ _; rfl) (h : X.K = K := by rfl) : PE X (.Subscript a b pos) (tOp (ixM K) ta tb) := h ▸ e_ix ha hb hs
theorem slK (K : PySem.W.Frag) (h : X.K = K := by rfl) : SlR X (slM K) := h ▸ sl_M
theorem lenK (K : PySem.W.Frag) (h : X.K = K := by rfl) : CallR X (.builtin "len") (lenM K) := h ▸ call_lenM
theorem listK (K : PySem.W.Frag) (h : X.K = K := by rfl) : CallR X (.type "list") (fun xs H Q => ∃ p ys, xs = [.ref p] ∧ (SqL K H p ys ∨ SqT K H p ys) ∧ ∀ l, H l = none → Q (.ref l) (upd H l (.lst ys))) := h ▸ call_list_of
theorem tupleK (K : PySem.W.Frag) (h : X.K = K := by rfl) : CallR X (.type "tuple") (fun xs H Q => ∃ p ys, xs = [.ref p] ∧ ((SqL K H p ys ∧ ∀ l, H l = none → Q (.ref l) (upd H l (.tup ys))) ∨ (SqT K H p ys ∧ Q (.ref p) H))) := h ▸ call_tuple_of
theorem isiK (K : PySem.W.Frag) (h : X.K = K := by rfl) : CallR X (.builtin "isinstance") (rIsi K) := h ▸ call_isi
theorem allK (K : PySem.W.Frag) (hc : X.calm = true) (h : X.K = K := by rfl) : CallR X (.builtin "all") (rAll K) := h ▸ cr_all hc
theorem anyK (K : PySem.W.Frag) (hc : X.calm = true) (h : X.K = K := by rfl) : CallR X (.builtin "any") (rAny K) := h ▸ cr_any hc
theorem sortedK (K : PySem.W.Frag) (h : X.K = K := by rfl) : CallR X (.builtin "sorted") (rSorted K) := h ▸ cr_sorted
theorem sumK (K : PySem.W.Frag) (hc : X.calm = true) (h : X.K = K := by rfl) : CallR X (.builtin "sum") (rSum K) := h ▸ cr_sum hc

/-! ### calls of own defs -/
structure Cal (P : Program) (w : World) (K : PySem.W.Frag) (mg : Str → Option Value) (base : Heap) (CX : CXT) (k : Nat) (x : Str) (f : Addr) (fd : FuncData) (ps : List Str) (sp : Sp) : Prop where
  G : FnOk P w K mg base CX k f fd ps sp
  b : Binds K fd ps []
  kp : PySem.W.keepIn K (.ref f) = true
  m : mg x = some (.ref f)
end
end El

set_option Elab.async false
set_option linter.all false
set_option maxRecDepth 100000
set_option maxHeartbeats 4000000
/-! Own words: an own exception's first row super().__init__(e), the rest of its __init__ by the layer. -/
namespace El
open PySem PySem.Spec PyProof.Rows L2 NdefX
abbrev supRow (p0 p1 p2 p3 p4 : Pos) (e1 : Expr) : Stmt := .Expr (.Call (.Attribute (.Call (.Name "super" p0) [] [] p1) "__init__" p2) [e1] [] p3) p4
abbrev supNF (name qual : Str) (params : Arguments) (body : List Stmt) (scope : Scope) (cc cda : Addr) : NF := ⟨name, qual, params, body, scope, [("__class__", cc)], cda⟩

theorem inv_unpin {X : Cx} {pins : List (Addr × Obj)} {σ : L2.St} {H : Hp} {s : Shared} (I : Inv X pins σ H s) : Inv X [] σ H s := I.pins_of fun p hp => absurd hp (by simp)

theorem fn_super {P : Program} {w : World} {K : PySem.W.Frag} {mg : Str → Option Value} {base : Heap} {CX : CXT} {k : Nat} {f cc cda D : Addr} {name qual : Str} {params : Arguments} {scope : Scope} {doc pm ct oc ccl cl : Value} {od cdd cld : Option Addr} {osl ccs csl : Array (Option Value)} {vs0 : Array Value} {file : Str} {tf : Tok} {cdD : ClassData}
    {N ps : List Str} {sp : Sp} {e1 : Expr} {rest : List Stmt} {p0 p1 p2 p3 p4 : Pos} {ar : Arg}
    (lk : K.lookup f = some ⟨oc, od, .func (PySem.W.fnX name qual params (supRow p0 p1 p2 p3 p4 e1 :: rest) scope [("__class__", cc)] .none .none doc pm none (.ref cda) ct), osl⟩)
    (hcd : PySem.W.codeIn K (.ref cda) qual = true) (S : NScope N ps ["__class__"] scope)
    (hcode : K.lookup cda = some ⟨ccl, cdd, .fields vs0, ccs⟩) (hvs : vs0[2]? = some (.str file tf)) (hfile : ((P.main.file : Str) == file) = true)
    (hcell : K.lookup cc = some ⟨cl, cld, .cell (some (.ref D)), csl⟩) (hD : PySem.W.clsIn K D = some cdD) (hsuper : mg "super" = none)
    (hop : PySem.W.nsIn K PySem.cStatics "thirdparty.any" = some none)
    (hp : (params.posonlyargs ++ params.args).head? = some ar) (hps : ps[0]? = some ar.arg)
    (hks : scope.names.lookup ("super" : Str) = some .globalImplicit) (htop : (P.main.scope.names.lookup ("super" : Str)).isSome = false)
    (hboot : bootBuiltins "super" = some (.type "super"))
    (len : ∀ vs H Q E, sp vs H Q E → vs.length = ps.length)
    (hbody : ∀ (A : Around) (outer : List Env) (s : Shared) (H : Hp) (vs : List V) (Q : VK) (E : XK), Room k (A.deeper (envF (supNF name qual params (supRow p0 p1 p2 p3 p4 e1 :: rest) scope cc cda) f s.heap.objs.size)) → sp vs H Q E →
      ∃ (a C : Addr) (ta : TA) (t : TS), vs[0]? = some (.ref a) ∧ H a = some (exo a C none) ∧ OexC K C ∧ PySem.W.mroIn K C (.ref D) = some true ∧ PySem.W.ks_superIn K C D "__init__" = some (some (.builtin "ValueError.__init__")) ∧ PySem.W.subIn K (.ref C) (.type "ValueError") = some true ∧
        PA (ncx CX P w K mg base N (supNF name qual params (supRow p0 p1 p2 p3 p4 e1 :: rest) scope cc cda) f A outer s H E) [e1] ta ∧
        PSs (ncx CX P w K mg base N (supNF name qual params (supRow p0 p1 p2 p3 p4 e1 :: rest) scope cc cda) f A outer s H E) rest t ∧
        ta (startF N vs [none]) H fun ws H1 => H1 a = some (exo a C none) ∧ ws.length ≤ 1000 ∧ t { nx := fun _ H' => Q .non H', rt := Q } (startF N vs [none]) H1)
    (hst : ∀ env : Env, starEach [e1] env = (false, eval e1 env) :: starEach [] env) {pl : Env → Sem Bool}
    (he : ∀ env : Env, eval (.Call (.Attribute (.Call (.Name "super" p0) [] [] p1) "__init__" p2) [e1] [] p3) env = (do
      let ov ← attributeBase (.Call (.Name "super" p0) [] [] p1) "__init__" env (eval (.Call (.Name "super" p0) [] [] p1) env)
      standAt p2.atName
      let (f, first) ← holding [ov] (getMethod ov "__init__" (pl env))
      callWith p3 f first (backTo p3 (starEach [e1] env)) []))
    (hsw : ∀ env : Env, swapsWith (.Call (.Attribute (.Call (.Name "super" p0) [] [] p1) "__init__" p2) [e1] [] p3) none p4.line env = pure false) :
    FnOk P w K mg base CX (k + 1) f (PySem.W.fnX name qual params (supRow p0 p1 p2 p3 p4 e1 :: rest) scope [("__class__", cc)] .none .none doc pm none (.ref cda) ct) ps sp := by
  refine ⟨len, fun A outer s H args us vs Q E hr e0 hb r hsp => ?_⟩
  have hl := len _ _ _ _ hsp
  have KX : K.In s.heap := e0.mod.kin.keeps fun b o e => (e0.bs b o e).1
  have lim : s.heap.NoLimit := e0.mod.nolimit.keeps fun b o e => (e0.bs b o e).1
  have hkc : scope.names.lookup ("__class__" : Str) = some .free := S.frk _ (List.mem_singleton.mpr rfl)
  refine PySem.ks_codeAny_call_defAt (fd := PySem.W.fnX name qual params (supRow p0 p1 p2 p3 p4 e1 :: rest) scope [("__class__", cc)] .none .none doc pm none (.ref cda) ct) (body := supRow p0 p1 p2 p3 p4 e1 :: rest) (binds := ps.zip us) hr.depth (KX _ _ lk) rfl lim
    (PySem.W.codeRec_of KX hcd) rfl hb S.nocell (fun ⟨n, _⟩ hy => S.par n (List.of_mem_zip hy).1) (fun h₁ hns kp => ?_) S.co S.gen S.kind
  obtain ⟨a, C, ta, t, hv0, hexo, TC, hmro, hsup, hsubV, hPA, hPS, hq⟩ := hbody A outer s H vs Q E (hr.deeper _) hsp
  have bcc : base.get? cc = some ⟨cl, cld, .cell (some (.ref D)), csl⟩ := e0.mod.kin _ _ hcell
  have CC : CellsAt [(("__class__" : Str), cc)] ["__class__"] [none] s.heap H := by
    refine ⟨rfl, fun y c e => ?_, fun x y c e1 e2 => ?_, fun i y hi => ?_⟩
    · have : c = cc := by
        simp only [List.lookup] at e
        split at e
        · exact (Option.some.inj e).symm
        · cases e
      subst this
      exact ⟨(e0.bs _ _ bcc).2, _, _, KX _ _ hcell, rfl⟩
    · simp only [List.lookup] at e1 e2
      split at e1
      · rename_i h1
        split at e2
        · rename_i h2
          rw [beq_iff_eq] at h1 h2
          rw [h1, h2]
        · cases e2
      · cases e1
    · have : i = 0 ∧ y = "__class__" := by
        cases i with
        | zero => simp at hi; exact ⟨rfl, hi.symm⟩
        | succ i => simp at hi
      obtain ⟨rfl, rfl⟩ := this
      exact ⟨cc, by simp [List.lookup], fun v hv => by simp at hv⟩
  have I : Inv (ncx CX P w K mg base N (supNF name qual params (supRow p0 p1 p2 p3 p4 e1 :: rest) scope cc cda) f A outer s H E) [] (startF N vs [none]) H { s with heap := h₁, toks := s.toks + (ps.zip us).length } :=
    inv_startN (F := supNF name qual params (supRow p0 p1 p2 p3 p4 e1 :: rest) scope cc cda) S hr.hd e0 hl r CC hns kp
  have KX1 : K.In h₁ := fun b o e => kp b o (KX b o e)
  obtain ⟨oD, hD1, hD2⟩ : ∃ oD, h₁.get? D = some oD ∧ oD.data = .cls cdD := by
    unfold PySem.W.clsIn at hD
    split at hD
    · rename_i c d cd' sl ho
      cases hD
      exact ⟨_, KX1 _ _ ho, rfl⟩
    · cases hD
  have ndP : ps.Nodup := by
    have q := S.nd.sublist (List.take_sublist (ps.length + 1) N)
    rw [show N.take (ps.length + 1) = ps ++ [("__class__" : Str)] from S.pre] at q
    exact (List.nodup_append.mp q).1
  obtain ⟨u0, hu0, ru0⟩ := r.get hv0
  obtain rfl : u0 = Value.ref a := ru0
  obtain ⟨t1, hga⟩ := exo_at I.hok hexo
  have hint : interactive (envF (supNF name qual params (supRow p0 p1 p2 p3 p4 e1 :: rest) scope cc cda) f s.heap.objs.size) = false := by
    have hk := S.kind
    unfold interactive
    simp [Env.blockKind, hk]
  refine PySem.ks_wpAt_execs_cons (PySem.ks_wpAt_Expr_any (PySem.ks_wpAt_MethodCall (PySem.ks_wpAt_super_base (ar := ar) hks hkc (by decide +kernel) rfl (KX1 _ _ lk) rfl hp rfl (KX1 _ _ hcode) rfl hvs hfile htop ?_) (he _)) hint (hsw _))
  obtain ⟨mb, hb1, hb2⟩ := e0.mod.blt
  have kb : ∀ b o, base.get? b = some o → h₁.get? b = some o := fun b o e => kp b o (e0.bs b o e).1
  refine PySem.W.ks_loadName_global S.kind hks (Calls.loadGlobal_builtin (e0.mod.glob.keeps kb) hsuper (hb1.keeps kb) ((hb2 _ (by decide)).trans hboot) ⟨rfl, ?_⟩)
  refine wpAny_loadName_free S.kind hkc rfl ⟨_, KX1 _ _ hcell, rfl⟩ ?_
  refine wpAny_loadName_local S.kind (S.par _ (List.mem_of_getElem? hps)) hns (zip_look ndP hps hu0) ?_
  refine PySem.ks_wpAny_isType_cls hD1 hD2 ⟨rfl, ?_⟩
  refine PySem.ks_wpAny_call_super hD1 hD2 hga rfl (fun c e => by cases e) (PySem.W.looks_mroIn KX1 hmro) (fun h2 eso k2 => ?_)
  have I2 : Inv (ncx CX P w K mg base N (supNF name qual params (supRow p0 p1 p2 p3 p4 e1 :: rest) scope cc cda) f A outer s H E) [] (startF N vs [none]) H { s with heap := h2, toks := s.toks + (ps.zip us).length } := I.kept k2
  have KX2 : K.In h2 := fun b o e => k2 b o (KX1 b o e)
  cases hcC : PySem.W.clsIn K C with
  | none => unfold PySem.W.ks_superIn at hsup; rw [hcC] at hsup; cases hsup
  | some cd =>
  unfold PySem.W.ks_superIn at hsup
  rw [hcC] at hsup
  have hga2 := k2 _ _ hga
  have INS : PySem.W.InstAt h2 a { cls := .ref C, dict := none, data := .fields #[.ref t1, .none, .none, .none, .bool false, .none] } C none := ⟨hga2, rfl, rfl, trivial⟩
  have hI : PySem.W.Looks (model P w) h2 (isInstance (.ref a) (.type "ValueError")) true := INS.type.andThen (PySem.W.looks_subIn KX2 hsubV)
  refine PySem.W.kxs_getMethod PySem.W.kxs_ValueError eso (PySem.W.looks_opaque KX2 hop) (l₀ := cd.mro) (fun A Q E s k q => wpAny_bind ((PySem.W.looks_clsIn KX2 hcC) A _ E s k (wpAny_pure q))) rfl KX2 hsup hI (PySem.W.ks_ne KX2 INS hcC) (by decide +kernel) ?_
  have I3 : Inv (ncx CX P w K mg base N (supNF name qual params (supRow p0 p1 p2 p3 p4 e1 :: rest) scope cc cda) f A outer s H E) [] (startF N vs [none]) H { s with heap := h2.push (PySem.W.kxs_mw "ValueError.__init__" a), toks := s.toks + (ps.zip us).length + 1 } := I2.kept fun b o e => Heap.get?_push_of_some _ e
  have hu : (h2.push (PySem.W.kxs_mw "ValueError.__init__" a)).get? h2.objs.size = some (PySem.W.kxs_mw "ValueError.__init__" a) := Heap.get?_push_at rfl rfl
  have hfree : H h2.objs.size = none := I2.hok.fresh (Nat.le_refl _)
  have I4 : Inv (ncx CX P w K mg base N (supNF name qual params (supRow p0 p1 p2 p3 p4 e1 :: rest) scope cc cda) f A outer s H E) [(h2.objs.size, PySem.W.kxs_mw "ValueError.__init__" a)] (startF N vs [none]) H { s with heap := h2.push (PySem.W.kxs_mw "ValueError.__init__" a), toks := s.toks + (ps.zip us).length + 1 } :=
    I3.pins_of fun p hp => by
      obtain rfl := List.mem_singleton.mp hp
      exact ⟨hu, hfree, fun z => absurd I2.lt (by rw [← z]; exact Nat.lt_irrefl _), I2.nofs (Nat.le_refl _), fun v z => by cases z⟩
  show wpAny _ _ (callWith p3 (.ref h2.objs.size) [] (backTo p3 (starEach [e1] _)) []) _ _ _
  rw [hst]
  refine PySem.W.kxs_callWith (i := "ValueError.__init__") (x := a) rfl (Calls.evalArgs_plain ?_)
  have hrun := hPA.run p3 _ _ _ _ _ I4 hq
  rw [hst] at hrun
  refine thn hrun fun us' s4 ⟨ws, H1, I5, r5, hexo1, hws, hq1⟩ => ?_
  have hu5 : s4.heap.get? h2.objs.size = some (PySem.W.kxs_mw "ValueError.__init__" a) := (I5.pin (h2.objs.size, PySem.W.kxs_mw "ValueError.__init__" a) (List.mem_append_right _ (List.mem_singleton.mpr rfl))).1
  refine ⟨hu5, ?_⟩
  obtain ⟨nm, q9, N9, bs, bm, sn, sub, ab, col, dd, k0, k1, k2', k3, k5, hC, hbm⟩ := TC.cls
  obtain ⟨t2, hga5⟩ := exo_at I5.hok hexo1
  have hC5 := I5.kIn _ _ hC
  have hus : us'.length ≤ sizeLine := by
    rw [← Paired.length r5, sizeLine_eq]
    omega
  obtain ⟨h5, g5, d5, tk5, os5⟩ := s4
  show wpAny _ _ (call (.ref h2.objs.size) ([] ++ us')) _ _ _
  rw [List.nil_append]
  refine wpAny_call (codeAny_of_tree ?_)
  show wpAny _ _ (callAny (.ref h2.objs.size) ⟨us', []⟩) _ _ _
  simp only [callAny]
  refine wpAny_bind (wpAny_load hu5 ?_)
  simp only [PySem.W.kxs_mw, show (Value.type "method-wrapper" == Value.type "method" || Value.type "method-wrapper" == Value.type "builtin_function_or_method" || Value.type "method-wrapper" == Value.type "method-wrapper") = true by decide, if_true]
  refine PySem.W.KFB.if_so (by decide) ?_
  refine wpAny_bind (PySem.W.check_bound_init PySem.F.excBase_ValueError.toExcCallFacts hC5 hga5 rfl ?_)
  refine wpAny_bind (wpAny_pure (wpAny_pure ?_))
  refine ⟨plainId_quiet PySem.F.excBase_ValueError.init.plain _, codeAny_builtin PySem.F.excBase_ValueError.initEntry ?_⟩
  refine PySem.W.exc_init_tree (cls := .ref C) (t0 := t2) (dv := none) (c2 := .none) (c3 := .none) (b4 := .bool false) hga5 hus (fun h6 k6 e6 _ => ?_)
  have J := I5.write (t' := tk5) (x := a) (e := a) (o := exo a C none) (by rw [hexo1]; exact True.intro) (.inl rfl) k6 ⟨_, e6⟩ (exo_ok e6)
  have eu : upd H1 a (exo a C none) = H1 := by
    funext b
    by_cases hb : b = a
    · rw [hb, upd_same, hexo1]
    · rw [upd_ne hb]
  rw [eu] at J
  have J0 := inv_unpin J
  refine wpAt_of_wpAny ?_
  refine wpAny_mono (hPS.run [] _ _ H1 _ J0 hq1) (fun fl s' hs => ?_) fun e s' hs => hs
  have fin : ∀ {σ' : L2.St} {H' : Hp} {v : V} {u : Value}, Inv (ncx CX P w K mg base N (supNF name qual params (supRow p0 p1 p2 p3 p4 e1 :: rest) scope cc cda) f A outer s H E) [] σ' H' s' → L2.RelV v u → Q v H' → CE outer P w H s Q u s' :=
    fun {σ' H' v u} J rv q => ⟨v, H', J.os, J.bare, J.base, J.hok, rv, q⟩
  cases fl with
  | ret u =>
    obtain ⟨v, σ', H', J, rv, q⟩ := hs
    exact fin J rv q
  | next =>
    obtain ⟨σ', H', J, q⟩ := hs
    exact fin (v := V.non) (u := Value.none) J rfl q
  | brk =>
    obtain ⟨_, _, _, q⟩ := hs
    exact False.elim q
  | cont =>
    obtain ⟨_, _, _, q⟩ := hs
    exact False.elim q
end El

set_option Elab.async false
set_option linter.all false
set_option maxRecDepth 100000
set_option maxHeartbeats 4000000
/-! Own words: what the written part says of an own exception class, isinstance of what an except clause holds. -/
namespace El
open PySem PySem.Spec PyProof.Rows L2 NdefX
/-- isinstance(e, c), e the exception that the suite holds, with a dict -/
def rIsX (K : PySem.W.Frag) (cls : Value) (d : Option Addr) (a : Addr) : List V → Hp → VK → Prop := fun xs H Q => ∃ (D dd : Addr) (fs : List (Str × V)) (c : V) (cv : Value) (b : Bool), xs = [.ref a, c] ∧ cls = .ref D ∧ d = some dd ∧ H dd = some (.xd fs) ∧ ExcC K D ∧ (∀ u, RelV c u → u = cv) ∧ PySem.W.kitOne K (.ref D) cv = some b ∧ Q (.bl b) H
theorem call_isX {X : Cx} {a : Addr} {oe : Obj} {cls : Value} {d : Option Addr} {pn : List (Addr × Obj)} (hz : Zc cls d oe) (hf : ∃ vs, oe.data = .fields vs) : CallR (X.suite a ((a, oe) :: pn)) (.builtin "isinstance") (rIsX X.K cls d a) := by
  intro pins s σ H xs us Q I r h
  obtain ⟨D, dd, fs, c, cv, b, rfl, rfl, rfl, ea, C, hcv, e, q⟩ := h
  cases r with
  | cons rx rr =>
    cases rr with
    | cons rt rr =>
      cases rr
      cases rx
      have ec := hcv _ rt
      subst ec
      obtain ⟨hget, _⟩ := I.pin (a, oe) (List.mem_append.mpr (.inl List.mem_cons_self))
      obtain ⟨vs, hv⟩ := hf
      have hx : ObjOk X.prog X.w H s.heap dd (.xd fs) := I.hok dd _ ea
      obtain ⟨mA, hns, hr⟩ := hx
      obtain ⟨od, ho, hl⟩ := lookIn_ns hns
      have J : PySem.W.InstAt s.heap a oe D (some od) := ⟨hget, hz.1, by unfold PySem.W.notCls; rw [hv] <;> rfl, by rw [hz.2]; exact ho⟩
      obtain ⟨cdD, hcD, _⟩ := PySem.W.any_some C.hd
      exact PySem.W.kia_one (PySem.W.kitx_exc (by rw [hcD]; rfl) C.hg C.hk C.hs C.ha C.hn C.ht C.hm) I.kIn J e (fun z => nomatch z) fun tk => ⟨.bl b, H, I.kept (t' := tk) fun _ _ z => z, rfl, q⟩
/-- an own exception class with its own __init__ -/
structure ExK (K : PySem.W.Frag) (C fI : Addr) (fields : List Str) : Prop where
  oex : OexC K C
  sup : PySem.W.ks_superIn K C C "__init__" = some (some (.builtin "ValueError.__init__"))
  subV : PySem.W.subIn K (.ref C) (.type "ValueError") = some true
  mro : PySem.W.mroIn K C (.ref C) = some true
  iC : PySem.W.findIn K (.ref C) "__init__" = some (some (.ref fI))
  tI : PySem.W.typeIn K (.ref fI) = some (.type "function")
  no : ∀ f ∈ fields, PySem.W.findIn K (.ref C) f = some none
  xf : XfC K C
  is : ExcC K C
/-- what a suite that catches it must know -/
structure ExV (K : PySem.W.Frag) (C : Addr) (fields : List Str) : Prop where
  no : ∀ f ∈ fields, PySem.W.findIn K (.ref C) f = some none
  xf : XfC K C
  is : ExcC K C
/-- the i-th def of the class body -/
def mthS (s : Stmt) (i : Nat) : Stmt := match s with
  | .ClassDef _ _ _ b _ _ _ _ _ _ _ => b.getD i (.Pass ⟨0, 0, 0, 0⟩)
  | _ => .Pass ⟨0, 0, 0, 0⟩
/-- the same, from what the written part answers -/
theorem exk_mk {K : PySem.W.Frag} {C fI N : Addr} {fields : List Str} {nm q : Str} {bs bm : List Value} {sn : List Str} {sub : List Value} {ab : Bool} {col : Option Bool} {dd : Option Addr} {k0 k1 k2 k3 k5 : Option Value}
    (cls : K.lookup C = some (excClassObj nm q C N bs bm true sn sub ab col dd k0 k1 k2 k3 k5 "ValueError.__new__")) (ref : PySem.HandSPX.refsVE bm = true)
    (sa : PySem.W.findIn K (.ref C) "__setattr__" = some (some (.builtin "object.__setattr__"))) (exC : PySem.W.subIn K (.ref C) (.type "BaseException") = some true) (tyC : PySem.W.typeIn K (.ref C) = some (.type "type")) (kC : PySem.W.keepIn K (.ref C) = true)
    (sup : PySem.W.ks_superIn K C C "__init__" = some (some (.builtin "ValueError.__init__"))) (subV : PySem.W.subIn K (.ref C) (.type "ValueError") = some true) (mro : PySem.W.mroIn K C (.ref C) = some true)
    (iC : PySem.W.findIn K (.ref C) "__init__" = some (some (.ref fI))) (tI : PySem.W.typeIn K (.ref fI) = some (.type "function")) (no : ∀ f ∈ fields, PySem.W.findIn K (.ref C) f = some none)
    (ga : PySem.W.findIn K (.ref C) "__getattribute__" = some (some (.builtin "BaseException.__getattribute__"))) (gg : PySem.W.findIn K (.ref C) "__getattr__" = some none) (hd : PySem.W.hasDictIn K C = true)
    (hcl : PySem.W.findIn K (.ref C) "__class__" = some (some (.builtin "object.__class__"))) (hn : PySem.W.specialIn K (.builtin "object.__class__") "__get__" = some (some (.builtin "getset_descriptor.__get__"))) (ht : PySem.W.takesIn K (.builtin "object.__class__") = some true) (hm : PySem.W.mroIn K C (.type "object") = some true) : ExK K C fI fields :=
  ⟨⟨⟨nm, q, N, bs, bm, sn, sub, ab, col, dd, k0, k1, k2, k3, k5, cls, ref⟩, sa, exC, tyC, kC⟩, sup, subV, mro, iC, tI, no, ⟨ga, gg, exC, hd⟩, ⟨ga, gg, exC, hd, hcl, hn, ht, hm⟩⟩

/-! ### an own exception's __init__, by what it keeps -/
def spE (C : Addr) (ok : List V → Prop) (fs : List V → List (Str × V)) : Sp := fun vs H Q _ => ∃ (a : Addr) (ws : List V), vs = .ref a :: ws ∧ ok ws ∧ H a = some (exo a C none) ∧
  ∀ (dx : Addr) (H' : Hp), H dx = none → dx ≠ a → H' a = some (exo a C (some dx)) → H' dx = some (exd dx (fs ws)) → (∀ b, b ≠ a → b ≠ dx → H' b = H b) → Q .non H'
theorem mk_spE {C : Addr} {ok : List V → Prop} {fs : List V → List (Str × V)} {vs : List V} {H1 : Hp} {Q : XK} (hl : vs.length ≤ 1000) (ho : ok vs) (hq : ∀ d, H1 d = none → Q (.ref C) (some d) (upd H1 d (.xd (fs vs)))) :
    vs.length ≤ 1000 ∧ ∀ a, H1 a = none → spE C ok fs (.ref a :: (vs ++ [])) (upd H1 a (exo a C none))
      (fun v H2 => v = .non ∧ ∃ (d : Addr) (fs : List (Str × V)), H2 a = some (exo a C (some d)) ∧ H2 d = some (exd d fs) ∧ H1 d = none ∧ Q (.ref C) (some d) (upd (del H2 a) d (.xd fs))) (fun _ _ _ => False) := by
  refine ⟨hl, fun a na => ⟨a, vs, by rw [List.append_nil], ho, upd_same, fun dx H' n ne e1 e2 hh => ⟨rfl, dx, fs vs, e1, e2, ?_, ?_⟩⟩⟩
  · rw [upd_ne ne] at n
    exact n
  · have nd : H1 dx = none := by rw [upd_ne ne] at n; exact n
    have e : upd (del H' a) dx (.xd (fs vs)) = upd H1 dx (.xd (fs vs)) := by
      funext b
      by_cases hb : b = dx
      · rw [hb, upd_same, upd_same]
      · rw [upd_ne hb, upd_ne hb]
        by_cases ha : b = a
        · rw [ha, del_same, na]
        · rw [del_ne ha, hh b ha hb, upd_ne ha]
    rw [e]
    exact hq dx nd
/-- the class, its __init__, ready for a raise -/
structure CalE (P : Program) (w : World) (K : PySem.W.Frag) (mg : Str → Option Value) (base : Heap) (k : Nat) (x : Str) (C f : Addr) (fd : FuncData) (ps : List Str) (ok : List V → Prop) (fs : List V → List (Str × V)) (fields : List Str) : Prop where
  G : FnOk P w K mg base CX0 k f fd ps (spE C ok fs)
  b : Binds K fd ps []
  X : ExK K C f fields
  m : mg x = some (.ref C)
/-- one store, the dict being new -/
theorem ost1 {a C : Addr} {H : Hp} {f : Str} {y : V} {Q : Hp → Prop} (ea : H a = some (exo a C none)) (q : ∀ dx H', H dx = none → dx ≠ a → H' a = some (exo a C (some dx)) → H' dx = some (exd dx [(f, y)]) → (∀ b, b ≠ a → b ≠ dx → H' b = H b) → Q H') :
    ∀ dx, H dx = none → dx ≠ a → Q (upd (upd H dx (exd dx [(f, y)])) a (exo a C (some dx))) := fun dx n ne =>
  q dx _ n ne upd_same (by rw [upd_ne ne, upd_same]) fun b h1 h2 => by rw [upd_ne h1, upd_ne h2]
end El

set_option Elab.async false
set_option linter.all false
set_option maxRecDepth 100000
/-! Own words: a text times an int, the text of an int. -/
namespace El
open PySem PySem.Spec PyProof.Rows L2
def repS (z : Str) (k : Int) : Str := if k < 1 then Str.empty else if (k == 1 || z.length == 0) = true then z else ⟨(List.replicate k.toNat z.cps).foldl (· ++ ·) #[]⟩
theorem foldl_cps : ∀ (n : Nat) (a b : Array Nat), ((List.replicate n b).foldl (· ++ ·) a).toList = a.toList ++ (List.replicate n b.toList).flatten
  | 0, a, b => by simp
  | n + 1, a, b => by
    rw [List.replicate_succ, List.foldl_cons, foldl_cps n, Array.toList_append, List.replicate_succ, List.flatten_cons, List.append_assoc]
theorem repS_cps (z : Str) (k : Int) : (repS z k).cps.toList = (List.replicate k.toNat z.cps.toList).flatten := by
  unfold repS
  split
  · rename_i h
    rw [show k.toNat = 0 by omega]
    rfl
  · split
    · rename_i h1 h
      rw [Bool.or_eq_true, beq_iff_eq, beq_iff_eq] at h
      rcases h with h | h
      · subst h
        simp
      · have : z.cps.toList = [] := List.eq_nil_of_length_eq_zero (by rw [Array.length_toList]; exact h)
        rw [this]
        simp
    · rw [foldl_cps]
      rfl
theorem repS1 {c : Nat} {k : Int} : (repS ⟨#[c]⟩ k).cps.toList = List.replicate k.toNat c := by
  rw [repS_cps]
  simp
theorem op_mulS {X : Cx} : OpR X (binaryOp .Mult) (fun x y H Q => ∃ (z : Str) (k : Int), x = .str z ∧ y = .int k ∧ k ≤ 1000 ∧ -1000 ≤ k ∧ z.length ≤ 1000 ∧ Q (.str (repS z k)) H) := by
  intro pins s σ H x y v u Q I rx ry h
  obtain ⟨z, k, rfl, rfl, h1, h2, h3, q⟩ := h
  obtain ⟨t, rfl⟩ := rx
  obtain ⟨t', rfl⟩ := ry
  have e : (2 : Int) ^ 63 = 9223372036854775808 := by decide
  refine PySem.P.mul_str ?_ (fun n1 n2 => ?_) (fun n1 n2 => ?_) ?_
  · rw [e, decide_eq_false (by omega), decide_eq_false (by omega)]
    rfl
  · rw [e]
    have : ((9223372036854775808 : Int) - 1) / 1000 ≤ (9223372036854775808 - 1) / k := by
      refine Int.le_ediv_of_mul_le (by omega) ?_
      have : (9223372036854775808 - 1) / 1000 * k ≤ (9223372036854775808 - 1) / 1000 * 1000 := Int.mul_le_mul_of_nonneg_left h1 (by decide)
      refine Int.le_trans this (by decide)
    have : (1000 : Int) ≤ (9223372036854775808 - 1) / 1000 := by decide
    omega
  · have : z.length * k.toNat ≤ 1000 * 1000 := Nat.mul_le_mul h3 (by omega)
    show decide _ = false
    refine decide_eq_false ?_
    rw [sizeLine_eq]
    omega
  · unfold repS at q
    split
    · rename_i c
      rw [if_pos c] at q
      exact ⟨by decide, .str _, H, I.tok _, ⟨_, rfl⟩, q⟩
    · rename_i c
      rw [if_neg c] at q
      split
      · rename_i c2
        rw [if_pos c2] at q
        exact ⟨.str _, H, I, ⟨_, rfl⟩, q⟩
      · rename_i c2
        rw [if_neg c2] at q
        refine ⟨?_, .str _, H, I.tok _, ⟨_, rfl⟩, q⟩
        have e2 := foldl_cps k.toNat #[] z.cps
        have e3 : ((List.replicate k.toNat z.cps).foldl (· ++ ·) #[]).size = k.toNat * z.length := by
          rw [← Array.length_toList, e2, List.length_append]
          simp
          rfl
        show ((List.replicate k.toNat z.cps).foldl (· ++ ·) #[]).size ≤ sizeLine
        rw [e3, sizeLine_eq]
        have : k.toNat * z.length ≤ 1000 * 1000 := Nat.mul_le_mul (by omega) h3
        omega
/-- times, of texts too -/
def mulSM : R2 := fun x y H Q => match x, y with
  | .str z, .int k => k ≤ 1000 ∧ -1000 ≤ k ∧ z.length ≤ 1000 ∧ Q (.str (repS z k)) H
  | _, _ => mulM x y H Q
theorem op_mulSM {X : Cx} : OpR X (binaryOp .Mult) mulSM := opwk (OpR.or op_mulS op_mulM) fun x y H Q q => by
  unfold mulSM at q
  split at q
  · exact .inl ⟨_, _, rfl, rfl, q⟩
  · exact .inr q
/-- the signs of a number's text -/
theorem int_digits {i : Int} (h : 0 ≤ i) : ∀ c ∈ ((toString i : String) : Str).cps.toList, 48 ≤ c ∧ c ≤ 57 := by
  intro c hm
  by_cases hk : c ≠ 45 ∧ (c < 48 ∨ 57 < c)
  · exact absurd hm (int_text_free' c hk i)
  · by_cases h45 : c = 45
    · exfalso
      subst h45
      obtain ⟨n, rfl⟩ := Int.eq_ofNat_of_zero_le h
      rw [signs_ofString] at hm
      obtain ⟨ch, hc, e⟩ := List.mem_map.mp hm
      have hd : ch.isDigit = true := by
        have : ch ∈ (Nat.repr n).toList := hc
        exact Nat.isDigit_of_mem_toDigits (b := 10) (n := n) (by decide) (by decide) (by simpa [Nat.repr] using this)
      have := digit_range hd
      omega
    · omega
theorem int_text_ne (i : Int) : ((toString i : String) : Str).cps.toList ≠ [] := by
  rw [signs_ofString]
  intro h
  have h := List.map_eq_nil_iff.mp h
  have nn : ∀ n : Nat, (Nat.repr n).toList ≠ [] := fun n e => by
    have : Nat.toDigits 10 n = [] := by simpa [Nat.repr] using e
    exact Nat.toDigits_ne_nil this
  cases i with
  | ofNat n => exact nn n h
  | negSucc n =>
    have : ("-" ++ Nat.repr (n + 1)).toList = [] := h
    simp at this
end El

set_option Elab.async false
set_option linter.all false
set_option maxRecDepth 100000
set_option maxHeartbeats 4000000
/-! Own words: operators of own classes, static methods. -/
namespace El
open PySem PySem.Spec PyProof.Rows L2
theorem cmpBack_of {X : Cx} {pins : List (Addr × Obj)} {σ : L2.St} {Q : VK} {u : Value} {s' : Shared} (h : EP X pins σ Q u s') : PySem.W.CmpBack (EP X pins σ Q) u s' := by
  obtain ⟨v, H', I, r, q⟩ := id h
  cases v with
  | non => cases (show u = Value.none from r); exact h
  | bl b => cases (show u = Value.bool b from r); exact h
  | int i => obtain ⟨t, e⟩ := (show ∃ t, u = Value.int i t from r); subst e; exact h
  | str i => obtain ⟨t, e⟩ := (show ∃ t, u = Value.str i t from r); subst e; exact h
  | byt i => obtain ⟨t, e⟩ := (show ∃ t, u = Value.bytes i t from r); subst e; exact h
  | flt i => obtain ⟨t, e⟩ := (show ∃ t, u = Value.float i t from r); subst e; exact h
  | ref a => cases (show u = Value.ref a from r); exact h
  | ty n => cases (show u = Value.type n from r); exact h
/-- an own class's method for an operator -/
structure OpC (K : PySem.W.Frag) (C f : Addr) (op : Operator) : Prop where
  sf : PySem.W.selfFirst K C = true
  at_ : PySem.W.findIn K (.ref C) (PySem.dunder op.info.2) = some (some (.ref f))
  fn : PySem.W.isFn K (.ref f) = true
/-- .. with a value of the built-in type T on the right -/
structure OpT (K : PySem.W.Frag) (C f : Addr) (op : Operator) (T : String) : Prop where
  c : OpC K C f op
  hr : ∃ rc, PySem.W.findIn K (.ref C) (PySem.dunderR op.info.2) = some rc ∧ (rc = none ∨ ∃ g : Addr, rc = some (.ref g))
  h1 : ∃ fo, PySem.W.findIn K (.type T) (PySem.dunder op.info.2) = some fo
  h2 : ∃ ro, PySem.W.findIn K (.type T) (PySem.dunderR op.info.2) = some ro
  sub : PySem.W.subIn K (.type T) (.ref C) = some false
structure InvC (K : PySem.W.Frag) (C f : Addr) : Prop where
  at_ : PySem.W.findIn K (.ref C) "__invert__" = some (some (.ref f))
  fn : PySem.W.isFn K (.ref f) = true
section
variable {X : Cx} {CX : CXT} {k : Nat} {C f : Addr} {fd : FuncData} {ps : List Str} {sp : Sp} {E : XK} {op : Operator}
/-- a op b, both of the class at C -/
def rOwn (C : Addr) (sp : Sp) (E : XK) : R2 := fun x y H Q => ∃ a b dx fs dy gs, x = .ref a ∧ y = .ref b ∧ H a = some (.ins C dx fs) ∧ H b = some (.ins C dy gs) ∧ sp [.ref a, .ref b] H Q E
theorem op_own (c : OpC X.K C f op) (F : FnOk X.prog X.w X.K X.mg X.base CX k f fd ps sp) (hr : Room k X.A) (hb : Binds X.K fd ps []) (hx : Passes CX X E) : OpR X (binaryOp op) (rOwn C sp E) := by
  intro pins s σ H x y v u Q I rx ry h
  obtain ⟨a, b, dx, fs, dy, gs, rfl, rfl, ea, eb, q⟩ := h
  obtain rfl : v = Value.ref a := rx
  obtain rfl : u = Value.ref b := ry
  obtain ⟨m, fr⟩ := I.fr
  obtain ⟨mA, O, _⟩ := ins_get I.hok ea
  obtain ⟨od, J, _⟩ := O.look
  obtain ⟨mB, O2, _⟩ := ins_get I.hok eb
  obtain ⟨od2, J2, _⟩ := O2.look
  refine PySem.W.binop_K fr I.ok.mod.kin J J2.type c.sf c.at_ c.fn ?_
  refine wpAny_mono (run_fn (us := [.ref a, .ref b]) (vs := [.ref a, .ref b]) (ds := []) (dvs := []) F hr hb .nil hx I (.cons rfl (.cons rfl .nil)) q) (fun u' s' h' => cmpBack_of h') fun _ _ z => z
/-- a op n, n an int -/
def rOwnI (C : Addr) (sp : Sp) (E : XK) : R2 := fun x y H Q => ∃ a dx fs i, x = .ref a ∧ y = .int i ∧ H a = some (.ins C dx fs) ∧ sp [.ref a, .int i] H Q E
theorem op_ownI (c : OpT X.K C f op "int") (F : FnOk X.prog X.w X.K X.mg X.base CX k f fd ps sp) (hr : Room k X.A) (hb : Binds X.K fd ps []) (hx : Passes CX X E) : OpR X (binaryOp op) (rOwnI C sp E) := by
  intro pins s σ H x y v u Q I rx ry h
  obtain ⟨a, dx, fs, i, rfl, rfl, ea, q⟩ := h
  obtain rfl : v = Value.ref a := rx
  obtain ⟨t, rfl⟩ := ry
  obtain ⟨m, fr⟩ := I.fr
  obtain ⟨mA, O, _⟩ := ins_get I.hok ea
  obtain ⟨od, J, _⟩ := O.look
  obtain ⟨rc, hr1, hr2⟩ := c.hr
  obtain ⟨fo, h1⟩ := c.h1
  obtain ⟨ro, h2⟩ := c.h2
  refine PySem.W.ksp_binT fr I.ok.mod.kin J (T := "int") rfl c.c.sf c.c.at_ c.c.fn hr1 hr2 h1 h2 c.sub ?_
  refine wpAny_mono (run_fn (us := [.ref a, .int i t]) (vs := [.ref a, .int i]) (ds := []) (dvs := []) F hr hb .nil hx I (.cons rfl (.cons ⟨t, rfl⟩ .nil)) q) (fun u' s' h' => cmpBack_of h') fun _ _ z => z
/-- ~a -/
theorem un_own (c : InvC X.K C f) (F : FnOk X.prog X.w X.K X.mg X.base CX k f fd ps sp) (hr : Room k X.A) (hb : Binds X.K fd ps []) (hx : Passes CX X E) : UnR X (unaryOp .Invert) (fun x H Q => ∃ a dx fs, x = .ref a ∧ H a = some (.ins C dx fs) ∧ sp [.ref a] H Q E) := by
  intro pins s σ H x v Q I rx h
  obtain ⟨a, dx, fs, rfl, ea, q⟩ := h
  obtain rfl : v = Value.ref a := rx
  obtain ⟨m, fr⟩ := I.fr
  obtain ⟨mA, O, _⟩ := ins_get I.hok ea
  obtain ⟨od, J, _⟩ := O.look
  exact PySem.W.ksp_inv fr I.ok.mod.kin J c.at_ c.fn (run_fn (us := [.ref a]) (vs := [.ref a]) (ds := []) (dvs := []) F hr hb .nil hx I (.cons rfl .nil) q)
end

section
variable {X : Cx} {CX : CXT} {k : Nat} {C f : Addr} {fd : FuncData} {ps : List Str} {sp : Sp} {E : L2.St → XK} {op : Operator} {a b : Expr} {ta tb : TE} {pos : Pos}
/-- .. what it lets out being taken where it stands -/
def tOwnS (C : Addr) (sp : Sp) (E : L2.St → XK) (ta tb : TE) : TE := fun σ H Q => ta σ H fun x H1 => tb σ H1 fun y H2 => ∃ a b dx fs dy gs, x = .ref a ∧ y = .ref b ∧ H2 a = some (.ins C dx fs) ∧ H2 b = some (.ins C dy gs) ∧ sp [.ref a, .ref b] H2 Q (E σ)
theorem pe_bopS (c : OpC X.K C f op) (F : FnOk X.prog X.w X.K X.mg X.base CX k f fd ps sp) (hr : Room k X.A) (hb : Binds X.K fd ps []) (hx : ∀ σ, PassesAt CX X σ (E σ)) (ha : PE X a ta) (hb2 : PE X b tb) : PE X (.BinOp a op b pos) (tOwnS C sp E ta tb) := by
  refine ⟨fun pins s σ H Q I h => ?_⟩
  refine wpAny_BinOp (thn (ha.run pins s σ H _ I h) fun v s1 ⟨x, H1, I1, rx, q1⟩ => thn (hb2.run pins s1 σ H1 _ I1 q1) fun u s2 ⟨y, H2, I2, ry, a, b, dx, fs, dy, gs, ex, ey, ea, eb, q⟩ => ?_)
  subst ex ey
  obtain rfl : v = Value.ref a := rx
  obtain rfl : u = Value.ref b := ry
  obtain ⟨m, fr⟩ := I2.fr
  obtain ⟨mA, O, _⟩ := ins_get I2.hok ea
  obtain ⟨od, J, _⟩ := O.look
  obtain ⟨mB, O2, _⟩ := ins_get I2.hok eb
  obtain ⟨od2, J2, _⟩ := O2.look
  refine PySem.W.binop_K fr I2.ok.mod.kin J J2.type c.sf c.at_ c.fn ?_
  refine wpAny_mono (run_fnS (us := [.ref a, .ref b]) (vs := [.ref a, .ref b]) F hr hb (hx σ) I2 (.cons rfl (.cons rfl .nil)) q) (fun u' s' h' => cmpBack_of h') fun _ _ z => z
end

/-! ### static methods, by the class's name -/
structure SMet (K : PySem.W.Frag) (C : Addr) (mc : Value) (m : Str) (p g : Addr) : Prop where
  at_ : PySem.W.findCls K (.ref C) mc m = some (.get (.builtin "staticmethod.__get__") (.ref p) .none (.ref C))
  rc : ∃ rest, PySem.W.recIn K p "staticmethod" = some (.ref g :: rest)
  kp : PySem.W.keepIn K (.ref g) = true
section
variable {X : Cx} {CX : CXT} {k : Nat} {C p g : Addr} {mc : Value} {fd : FuncData} {ps : List Str} {sp : Sp} {E : XK} {o e : Expr} {es : List Expr} {m : Str} {pos apos : Pos} {ta : TE} {t : TA} {pl : Sem Bool}
def tSM (C : Addr) (sp : Sp) (E : XK) (ta : TE) (t : TA) : TE := fun σ H Q => ta σ H fun x H1 => x = .ref C ∧ t σ H1 fun vs H2 => sp vs H2 Q E
theorem getsm_ok {pins : List (Addr × Obj)} {σ : L2.St} {H : Hp} {s : Shared} {A : Around} {E : Value → Shared → Prop} {Q : Value × List Value → Shared → Prop} (I : Inv X pins σ H s) (r : ClX.CRead X.K C mc) (c : SMet X.K C mc m p g)
    (h : ∀ s', Inv X pins σ H s' → Q (.ref g, []) s') : wpAny (model X.prog X.w) A (getMethod (.ref C) m pl) Q E s := by
  obtain ⟨rest, hp⟩ := c.rc
  refine PySem.W.method_cls I.kIn r.ga ?_
  refine PySem.W.cls_bind I.kIn r.rd c.at_ ?_
  exact wpAny_call (PySem.W.sm_get (s := { s with toks := s.toks + 1 }) I.kIn hp (PySem.W.handed_on rfl (h _ (I.tok _))))
theorem pe_smeth (he : PE X o ta) (r : ClX.CRead X.K C mc) (c : SMet X.K C mc m p g) (F : FnOk X.prog X.w X.K X.mg X.base CX k g fd ps sp) (hr : Room k X.A) (hb : Binds X.K fd ps []) (hx : Passes CX X E) (ha : PA X (e :: es) t)
    (hst : starEach (e :: es) X.env = (false, eval e X.env) :: starEach es X.env := by rfl) (hpl : (backTo pos (starEach es X.env)).any (·.1) = false := by rfl)
    (ht : eval (.Call (.Attribute o m apos) (e :: es) [] pos) X.env = (do
      let ov ← eval o X.env
      standAt apos.atName
      let (f, first) ← holding [ov] (getMethod ov m pl)
      callWith pos f first (backTo pos (starEach (e :: es) X.env)) (backToKw pos (keywordEach [] X.env))) := by rfl) :
    PE X (.Call (.Attribute o m apos) (e :: es) [] pos) (tSM C sp E ta t) := by
  refine ⟨fun pins s σ H Q I h => ?_⟩
  refine PySem.W.methodCall_KW (pl := pl) (thn (he.run pins s σ H _ I h) fun u s1 ⟨x, H1, I1, rx, ex, q⟩ => ?_) ht
  subst ex
  obtain rfl : u = Value.ref C := rx
  refine getsm_ok I1 r c fun s2 I2 => ?_
  refine PySem.W.callWith_K (h₀ := X.base) I2.ok.mod.kin c.kp (thn (ha.run pos pins s2 σ H1 _ I2 q) fun us s3 ⟨vs, H2, I3, rv, q2⟩ => ⟨I3.kIn, ?_⟩) hst hpl
  have hl : sp (vs ++ []) H2 Q E := by rw [List.append_nil]; exact q2
  exact run_fn (ds := []) (dvs := []) F hr hb .nil hx I3 rv hl
theorem pe_smeth0 (he : PE X o ta) (r : ClX.CRead X.K C mc) (c : SMet X.K C mc m p g) (F : FnOk X.prog X.w X.K X.mg X.base CX k g fd ps sp) (hr : Room k X.A) (hb : Binds X.K fd ps []) (hx : Passes CX X E)
    (ht : eval (.Call (.Attribute o m apos) [] [] pos) X.env = (do
      let ov ← eval o X.env
      standAt apos.atName
      let (f, first) ← holding [ov] (getMethod ov m pl)
      callWith pos f first (backTo pos (starEach [] X.env)) (backToKw pos (keywordEach [] X.env))) := by rfl) :
    PE X (.Call (.Attribute o m apos) [] [] pos) (tSM C sp E ta tNil) := by
  refine ⟨fun pins s σ H Q I h => ?_⟩
  refine PySem.W.methodCall_KW (pl := pl) (thn (he.run pins s σ H _ I h) fun u s1 ⟨x, H1, I1, rx, ex, q⟩ => ?_) ht
  subst ex
  obtain rfl : u = Value.ref C := rx
  refine getsm_ok I1 r c fun s2 I2 => ?_
  exact PySem.W.callWith_K0 I2.kIn c.kp (run_fn (us := []) (vs := []) (ds := []) (dvs := []) F hr hb .nil hx I2 .nil q)
end

/-! ### defs of own classes, ready to be called -/
structure CalB (P : Program) (w : World) (K : PySem.W.Frag) (mg : Str → Option Value) (base : Heap) (CX : CXT) (k : Nat) (f : Addr) (fd : FuncData) (ps : List Str) (sp : Sp) : Prop where
  G : FnOk P w K mg base CX k f fd ps sp
  b : Binds K fd ps []
structure CalI (P : Program) (w : World) (K : PySem.W.Frag) (mg : Str → Option Value) (base : Heap) (CX : CXT) (k : Nat) (x : Str) (C f : Addr) (fd : FuncData) (ps : List Str) (sp : Sp) : Prop extends CalB P w K mg base CX k f fd ps sp where
  mkc : Mk K C f
  m : mg x = some (.ref C)
structure CalS (P : Program) (w : World) (K : PySem.W.Frag) (mg : Str → Option Value) (base : Heap) (CX : CXT) (k : Nat) (C p : Addr) (m : Str) (f : Addr) (fd : FuncData) (ps : List Str) (sp : Sp) : Prop extends CalB P w K mg base CX k f fd ps sp where
  rd : ClX.CRead K C (.type "type")
  sm : SMet K C (.type "type") m p f
structure CalP (P : Program) (w : World) (K : PySem.W.Frag) (mg : Str → Option Value) (base : Heap) (CX : CXT) (k : Nat) (C p : Addr) (m : Str) (f : Addr) (fd : FuncData) (ps : List Str) (sp : Sp) : Prop extends CalB P w K mg base CX k f fd ps sp where
  cl : Cls K C
  pr : PropOf K C m p f
structure CalO (P : Program) (w : World) (K : PySem.W.Frag) (mg : Str → Option Value) (base : Heap) (CX : CXT) (k : Nat) (C : Addr) (op : Operator) (f : Addr) (fd : FuncData) (ps : List Str) (sp : Sp) : Prop extends CalB P w K mg base CX k f fd ps sp where
  op : OpC K C f op
structure CalC (P : Program) (w : World) (K : PySem.W.Frag) (mg : Str → Option Value) (base : Heap) (CX : CXT) (k : Nat) (C f : Addr) (fd : FuncData) (ps : List Str) (sp : Sp) : Prop extends CalB P w K mg base CX k f fd ps sp where
  co : StX.CallO K C f

/-! ### the written part named (in comprehensions) -/
section
variable {X : Cx} {e : Expr} {es : List Expr} {f : Str} {pos p : Pos} {ta : TE} {t : TA}
theorem e_f (K : PySem.W.Frag) (he : PE X e ta) (hb : attributeBase e f X.env (eval e X.env) = eval e X.env := by rfl) (h : X.K = K := by rfl) : PE X (.Attribute e f pos) (tFld K ta f) := h ▸ pe_fld he hb
theorem e_cv (K : PySem.W.Frag) (he : PE X e ta) (hb : attributeBase e f X.env (eval e X.env) = eval e X.env := by rfl) (h : X.K = K := by rfl) : PE X (.Attribute e f pos) (ClX.tCVal K ta f) := h ▸ ClX.pe_cval he hb
end

/-! ### len of an own class -/
structure LenC (K : PySem.W.Frag) (C f : Addr) : Prop where
  at_ : PySem.W.findIn K (.ref C) "__len__" = some (some (.ref f))
  fn : PySem.W.isFn K (.ref f) = true
theorem call_lenO {X : Cx} {k : Nat} {C f : Addr} {fd : FuncData} {ps : List Str} {sp : Sp} (c : LenC X.K C f) (F : FnOk X.prog X.w X.K X.mg X.base CX0 k f fd ps sp) (hr : Room (k + 1) X.A) (hb : Binds X.K fd ps []) :
    CallR X (.builtin "len") (fun xs H Q => ∃ a dx fs, xs = [.ref a] ∧ H a = some (.ins C dx fs) ∧ sp [.ref a] H (fun v H' => ∃ n : Int, v = .int n ∧ 0 ≤ n ∧ n < 2 ^ 62 ∧ Q (.int n) H') E0) := by
  intro pins s σ H xs us Q I r h
  obtain ⟨a, dx, fs, rfl, ea, q⟩ := h
  obtain rfl := Vals.ref1 r
  obtain ⟨m, fr⟩ := I.fr
  obtain ⟨mA, O, _⟩ := ins_get I.hok ea
  obtain ⟨od, J, _⟩ := O.look
  refine PySem.W.len_K fr I.ok.mod.kin J c.at_ c.fn ?_
  have hl : ([Value.ref a] ++ []).length = ps.length := (F.len _ _ _ _ q)
  have b := hb s [.ref a] I.kIn hl
  rw [List.append_nil] at b
  refine wpAny_call (codeAny_mono (F.run X.A.in1 X.stack s H ⟨[.ref a], []⟩ [.ref a] [.ref a] _ E0 hr.in1 I.env0.in1 b (.cons rfl .nil) q) fun r s' hq' => ?_)
  cases r with
  | error e => exact False.elim hq'
  | ok fl =>
    cases fl with
    | ret u =>
      obtain ⟨v, H', I3, rv, n, rfl, h0, h1, q3⟩ := I.after hq'
      obtain ⟨t, rfl⟩ := rv
      exact ⟨⟨h0, Int.lt_trans h1 (by decide)⟩, ⟨.int n, H', I3.tok _, ⟨_, rfl⟩, q3⟩⟩
    | next => exact False.elim hq'
    | brk => exact False.elim hq'
    | cont => exact False.elim hq'
structure CalL (P : Program) (w : World) (K : PySem.W.Frag) (mg : Str → Option Value) (base : Heap) (CX : CXT) (k : Nat) (C f : Addr) (fd : FuncData) (ps : List Str) (sp : Sp) : Prop extends CalB P w K mg base CX k f fd ps sp where
  le : LenC K C f
end El

set_option Elab.async false
set_option linter.all false
set_option maxRecDepth 100000
set_option maxHeartbeats 4000000
/-! Own words: static methods and callable objects inside a try; exception classes that inherit their __init__. -/
namespace El
open PySem PySem.Spec PyProof.Rows L2
section
variable {X : Cx} {CX : CXT} {k : Nat} {C p g f : Addr} {mc : Value} {fd : FuncData} {ps : List Str} {sp : Sp} {E : L2.St → XK} {o e fe : Expr} {es : List Expr} {m : Str} {pos apos : Pos} {ta tf : TE} {t : TA} {pl : Sem Bool}
theorem code_fnS {pins : List (Addr × Obj)} {σ : L2.St} {H : Hp} {s : Shared} {Q : VK} {us : List Value} {vs : List V} (F : FnOk X.prog X.w X.K X.mg X.base CX k f fd ps sp) (hr : Room k X.A) (hb : Binds X.K fd ps []) (hx : PassesAt CX X σ (E σ))
    (I : Inv X pins σ H s) (r : Vals vs us) (h : sp vs H Q (E σ)) : codeAny (model X.prog X.w) X.A (.call (.ref f) ⟨us, []⟩) (fun r s' => match r with | .ok (.ret u) => EP X pins σ Q u s' | .error e => X.xe e s' | _ => False) s := by
  have hl : us.length = ps.length := by rw [← r.length]; exact F.len _ _ _ _ h
  have b := hb s us I.kIn (by rw [List.append_nil]; exact hl)
  rw [List.append_nil] at b
  refine codeAny_mono (F.run X.A X.stack s H ⟨us, []⟩ us vs Q (E σ) hr I.env0 b r h) fun r s' hq => ?_
  cases r with
  | error e => exact hx pins H s e s' I hq
  | ok fl =>
    cases fl with
    | ret u => exact I.after hq
    | next => exact False.elim hq
    | brk => exact False.elim hq
    | cont => exact False.elim hq
/-- C.m(e, ..), what it lets out being taken where it stands -/
def tSMS (C : Addr) (sp : Sp) (E : L2.St → XK) (ta : TE) (t : TA) : TE := fun σ H Q => ta σ H fun x H1 => x = .ref C ∧ t σ H1 fun vs H2 => sp vs H2 Q (E σ)
theorem pe_smethS (he : PE X o ta) (r : ClX.CRead X.K C mc) (c : SMet X.K C mc m p g) (F : FnOk X.prog X.w X.K X.mg X.base CX k g fd ps sp) (hr : Room k X.A) (hb : Binds X.K fd ps []) (hx : ∀ σ, PassesAt CX X σ (E σ)) (ha : PA X (e :: es) t)
    (hst : starEach (e :: es) X.env = (false, eval e X.env) :: starEach es X.env := by rfl) (hpl : (backTo pos (starEach es X.env)).any (·.1) = false := by rfl)
    (ht : eval (.Call (.Attribute o m apos) (e :: es) [] pos) X.env = (do
      let ov ← eval o X.env
      standAt apos.atName
      let (f, first) ← holding [ov] (getMethod ov m pl)
      callWith pos f first (backTo pos (starEach (e :: es) X.env)) (backToKw pos (keywordEach [] X.env))) := by rfl) :
    PE X (.Call (.Attribute o m apos) (e :: es) [] pos) (tSMS C sp E ta t) := by
  refine ⟨fun pins s σ H Q I h => ?_⟩
  refine PySem.W.methodCall_KW (pl := pl) (thn (he.run pins s σ H _ I h) fun u s1 ⟨x, H1, I1, rx, ex, q⟩ => ?_) ht
  subst ex
  obtain rfl : u = Value.ref C := rx
  refine getsm_ok I1 r c fun s2 I2 => ?_
  refine PySem.W.callWith_K (h₀ := X.base) I2.ok.mod.kin c.kp (thn (ha.run pos pins s2 σ H1 _ I2 q) fun us s3 ⟨vs, H2, I3, rv, q2⟩ => ⟨I3.kIn, ?_⟩) hst hpl
  exact run_fnS F hr hb (hx σ) I3 rv q2
/-- f(e, ..), f an instance of C, what it lets out being taken where it stands -/
def tCallOS (C : Addr) (sp : Sp) (E : L2.St → XK) (tf : TE) (t : TA) : TE := fun σ H Q => tf σ H fun y H1 => ∃ a, y = V.ref a ∧ t σ H1 fun vs H2 => (∃ dx fs, H2 a = some (.ins C dx fs)) ∧ sp (V.ref a :: vs) H2 Q (E σ)
theorem pe_callOS (hf : PE X fe tf) (c : StX.CallO X.K C g) (F : FnOk X.prog X.w X.K X.mg X.base CX k g fd ps sp) (hb : Binds X.K fd ps []) (hr : Room k X.A) (hx : ∀ σ, PassesAt CX X σ (E σ)) (ha : PA X (e :: es) t)
    (ht : eval (.Call fe (e :: es) [] pos) X.env = (do callWith pos (← eval fe X.env) [] (backTo pos (starEach (e :: es) X.env)) (backToKw pos (keywordEach [] X.env))) := by rfl)
    (he : starEach (e :: es) X.env = (false, eval e X.env) :: starEach es X.env := by rfl) (hpl : (backTo pos (starEach es X.env)).any (·.1) = false := by rfl) : PE X (.Call fe (e :: es) [] pos) (tCallOS C sp E tf t) := by
  refine ⟨fun pins s σ H Q I h => ?_⟩
  refine Call_ (thn (hf.run pins s σ H _ I h) fun u s1 ⟨y, H1, I1, ry, a, ey, q⟩ => ?_) ht
  subst ey
  obtain rfl : u = Value.ref a := ry
  refine StX.callO_with (thn (ha.run pos pins s1 σ H1 _ I1 q) fun us s2 ⟨vs, H2, I2, r, hi, q2⟩ => ?_) he hpl
  obtain ⟨ox, od, J, hd⟩ := StX.insC_at I2 (.inr hi)
  refine ⟨⟨C, ox, od, J, hd⟩, ?_⟩
  refine wpAny_call (PySem.W.kco_code I2.kIn J hd c.at_ c.fn c.fi (codeAny_mono (code_fnS (us := .ref a :: us) (vs := .ref a :: vs) F hr hb (hx σ) I2 (.cons rfl r) q2) fun r s' h => ?_))
  cases r with
  | error e => exact h
  | ok fl =>
    cases fl with
    | ret u => exact h
    | next => exact False.elim h
    | brk => exact False.elim h
    | cont => exact False.elim h
end

/-! ### an exception class C whose __init__ is that of D above it -/
open NdefX
structure ExI (K : PySem.W.Frag) (C D fI : Addr) (fields : List Str) : Prop where
  oex : OexC K C
  sup : PySem.W.ks_superIn K C D "__init__" = some (some (.builtin "ValueError.__init__"))
  subV : PySem.W.subIn K (.ref C) (.type "ValueError") = some true
  mro : PySem.W.mroIn K C (.ref D) = some true
  iC : PySem.W.findIn K (.ref C) "__init__" = some (some (.ref fI))
  tI : PySem.W.typeIn K (.ref fI) = some (.type "function")
  no : ∀ f ∈ fields, PySem.W.findIn K (.ref C) f = some none
  xf : XfC K C
  is : ExcC K C
theorem exi_mk {K : PySem.W.Frag} {C D fI N : Addr} {fields : List Str} {nm q : Str} {bs bm : List Value} {sn : List Str} {sub : List Value} {ab : Bool} {col : Option Bool} {dd : Option Addr} {k0 k1 k2 k3 k5 : Option Value}
    (cls : K.lookup C = some (excClassObj nm q C N bs bm true sn sub ab col dd k0 k1 k2 k3 k5 "ValueError.__new__")) (ref : PySem.HandSPX.refsVE bm = true)
    (sa : PySem.W.findIn K (.ref C) "__setattr__" = some (some (.builtin "object.__setattr__"))) (exC : PySem.W.subIn K (.ref C) (.type "BaseException") = some true) (tyC : PySem.W.typeIn K (.ref C) = some (.type "type")) (kC : PySem.W.keepIn K (.ref C) = true)
    (sup : PySem.W.ks_superIn K C D "__init__" = some (some (.builtin "ValueError.__init__"))) (subV : PySem.W.subIn K (.ref C) (.type "ValueError") = some true) (mro : PySem.W.mroIn K C (.ref D) = some true)
    (iC : PySem.W.findIn K (.ref C) "__init__" = some (some (.ref fI))) (tI : PySem.W.typeIn K (.ref fI) = some (.type "function")) (no : ∀ f ∈ fields, PySem.W.findIn K (.ref C) f = some none)
    (ga : PySem.W.findIn K (.ref C) "__getattribute__" = some (some (.builtin "BaseException.__getattribute__"))) (gg : PySem.W.findIn K (.ref C) "__getattr__" = some none) (hd : PySem.W.hasDictIn K C = true)
    (hcl : PySem.W.findIn K (.ref C) "__class__" = some (some (.builtin "object.__class__"))) (hn : PySem.W.specialIn K (.builtin "object.__class__") "__get__" = some (some (.builtin "getset_descriptor.__get__"))) (ht : PySem.W.takesIn K (.builtin "object.__class__") = some true) (hm : PySem.W.mroIn K C (.type "object") = some true) : ExI K C D fI fields :=
  ⟨⟨⟨nm, q, N, bs, bm, sn, sub, ab, col, dd, k0, k1, k2, k3, k5, cls, ref⟩, sa, exC, tyC, kC⟩, sup, subV, mro, iC, tI, no, ⟨ga, gg, exC, hd⟩, ⟨ga, gg, exC, hd, hcl, hn, ht, hm⟩⟩
structure CalEI (P : Program) (w : World) (K : PySem.W.Frag) (mg : Str → Option Value) (base : Heap) (k : Nat) (x : Str) (C f : Addr) (fd : FuncData) (ps : List Str) (ok : List V → Prop) (fs : List V → List (Str × V)) (fields : List Str) : Prop where
  G : FnOk P w K mg base CX0 k f fd ps (spE C ok fs)
  b : Binds K fd ps []
  X : ∃ D, ExI K C D f fields
  m : mg x = some (.ref C)
theorem CalEI.oex {P : Program} {w : World} {K : PySem.W.Frag} {mg : Str → Option Value} {base : Heap} {k : Nat} {x : Str} {C f : Addr} {fd : FuncData} {ps : List Str} {ok : List V → Prop} {fs : List V → List (Str × V)} {fields : List Str} (c : CalEI P w K mg base k x C f fd ps ok fs fields) : OexC K C := by obtain ⟨D, X⟩ := c.X; exact X.oex
theorem CalEI.iC {P : Program} {w : World} {K : PySem.W.Frag} {mg : Str → Option Value} {base : Heap} {k : Nat} {x : Str} {C f : Addr} {fd : FuncData} {ps : List Str} {ok : List V → Prop} {fs : List V → List (Str × V)} {fields : List Str} (c : CalEI P w K mg base k x C f fd ps ok fs fields) : PySem.W.findIn K (.ref C) "__init__" = some (some (.ref f)) := by obtain ⟨D, X⟩ := c.X; exact X.iC
theorem CalEI.tI {P : Program} {w : World} {K : PySem.W.Frag} {mg : Str → Option Value} {base : Heap} {k : Nat} {x : Str} {C f : Addr} {fd : FuncData} {ps : List Str} {ok : List V → Prop} {fs : List V → List (Str × V)} {fields : List Str} (c : CalEI P w K mg base k x C f fd ps ok fs fields) : PySem.W.typeIn K (.ref f) = some (.type "function") := by obtain ⟨D, X⟩ := c.X; exact X.tI
/-! ### characters whose repr is bounded -/
def Asc (z : Str) : Prop := ∀ c ∈ z.cps.toList, c < 16 ^ 8
theorem repr_le {z : Str} (h : Asc z) (hl : z.length ≤ 1000) : (reprText z).length ≤ 10002 := Nat.le_trans (PySem.StrLaws.reprText_len z h) (by omega)
end El

set_option Elab.async false
set_option linter.all false
set_option maxRecDepth 100000
set_option maxHeartbeats 4000000
/-! Own words: methods of own classes, classes whose __init__ has defaults, tuple targets in comprehensions. -/
namespace El
open PySem PySem.Spec PyProof.Rows L2
structure CalM (P : Program) (w : World) (K : PySem.W.Frag) (mg : Str → Option Value) (base : Heap) (CX : CXT) (k : Nat) (C : Addr) (m : Str) (f : Addr) (fd : FuncData) (ps : List Str) (sp : Sp) : Prop extends CalB P w K mg base CX k f fd ps sp where
  cl : Cls K C
  me : Meth K C m f
/-- a class whose __init__ has defaults dvs that fill up -/
structure CalID (P : Program) (w : World) (K : PySem.W.Frag) (mg : Str → Option Value) (base : Heap) (CX : CXT) (k : Nat) (x : Str) (C f : Addr) (fd : FuncData) (ps : List Str) (dvs : List V) (sp : Sp) : Prop where
  G : FnOk P w K mg base CX k f fd ps sp
  b : ∃ ds, Vals dvs ds ∧ Binds K fd ps ds
  mkc : Mk K C f
  m : mg x = some (.ref C)
section
variable {X : Cx} {CX : CXT} {k : Nat} {C f : Addr} {fd : FuncData} {ps : List Str} {dvs : List V} {sp : Sp} {E : XK} {x : Str} {p pos : Pos} {e : Expr} {es : List Expr} {t : TA}
theorem pe_makeD (c : CalID X.prog X.w X.K X.mg X.base CX k x C f fd ps dvs sp) (hr : Room (k + 1) X.A) (hg : Gl X x) (hx : Passes CX X E) (ha : PA X (e :: es) t) (hdb : (x == ("__debug__" : Str)) = false := by decide)
    (he : starEach (e :: es) X.env = (false, eval e X.env) :: starEach es X.env := by rfl) (hpl : (backTo pos (starEach es X.env)).any (·.1) = false := by rfl) :
    PE X (.Call (.Name x p) (e :: es) [] pos) (tMake C sp dvs E t) := by
  obtain ⟨ds, hd, hb⟩ := c.b
  exact pe_make c.mkc c.G hr hg c.m hb hd hx ha hdb he hpl
end
section
variable {X : Cx}
theorem pg_tupK (K : PySem.W.Frag) {es : List Expr} {k : Nat} {t : TGs} {n : Nat} {pos : Pos} (hc : X.calm = true) (h : PGs X es t)
    (hn : (assignEach es X.env).length = n := by rfl) (hst : (assignEach es X.env).findIdx? (·.1) = none := by rfl) (hK : X.K = K := by rfl) : PG X (.Tuple es k pos) (gTup K n t) := hK ▸ pg_tup hc h hn hst
end
/-- a def of the text whose last parameter has a default -/
theorem fund_mk {K : PySem.W.Frag} {x qual : Str} {st : Stmt} {f T : Addr} {oc : Value} {od dd an : Option Addr} {osl dsl : Array (Option Value)} {kV doc pm cdv ct : Value} {its : Array Value} {n : Nat} {dvs : List V}
    (l : K.lookup f = some ⟨oc, od, .func (PySem.W.fnOf x qual (defArgs st) (defBody st) (defScope st) (.ref T) kV doc pm an cdv ct), osl⟩) (c : PySem.W.codeIn K cdv qual = true) (k : PySem.W.keepIn K (.ref f) = true)
    (lT : K.lookup T = some ⟨.type "tuple", dd, .seq its n, dsl⟩) (hv : Vals dvs its.toList) (hne : dvs ≠ []) : FunD K x qual (defArgs st) (defBody st) (defScope st) dvs [] f (PySem.W.fnOf x qual (defArgs st) (defBody st) (defScope st) (.ref T) kV doc pm an cdv ct) :=
  ⟨⟨oc, od, .ref T, kV, doc, pm, an, cdv, ct, osl, rfl, l, c, .inr ⟨hne, T, _, its.toList, n, rfl, lT, by simp, hv⟩, .inl rfl⟩, k⟩
end El

set_option Elab.async false
set_option linter.all false
set_option maxRecDepth 100000
set_option maxHeartbeats 4000000
/-! Own words: `in`, `not in` and `[..]` of own classes. -/
namespace El
open PySem PySem.Spec PyProof.Rows L2
/-- an own class's `__contains__` -/
structure InC (K : PySem.W.Frag) (C f : Addr) : Prop where
  at_ : PySem.W.findIn K (.ref C) "__contains__" = some (some (.ref f))
  fn : PySem.W.isFn K (.ref f) = true
/-- an own class's `__getitem__` -/
structure ItC (K : PySem.W.Frag) (C f : Addr) : Prop where
  at_ : PySem.W.findIn K (.ref C) "__getitem__" = some (some (.ref f))
  fn : PySem.W.isFn K (.ref f) = true
  ns : PySem.W.noSeq K C = true
section
variable {X : Cx} {CX : CXT} {k : Nat} {C f : Addr} {fd : FuncData} {ps : List Str} {sp : Sp} {E : XK}
/-- x in a, a of the class at C; n: not in -/
def rInO (n : Bool) (C : Addr) (sp : Sp) (E : XK) : R2 := fun x y H Q => ∃ a dx fs, y = .ref a ∧ H a = some (.ins C dx fs) ∧ sp [.ref a, x] H (fun v H' => ∃ b : Bool, v = .bl b ∧ Q (.bl (n ^^ b)) H') E
theorem op_inO (c : InC X.K C f) (F : FnOk X.prog X.w X.K X.mg X.base CX k f fd ps sp) (hr : Room k X.A) (hb : Binds X.K fd ps []) (hx : Passes CX X E) : OpR X (compareOp .In) (rInO false C sp E) := by
  intro pins s σ H x y v u Q I rx ry h
  obtain ⟨a, dx, fs, rfl, ea, q⟩ := h
  obtain rfl : u = Value.ref a := ry
  obtain ⟨m, fr⟩ := I.fr
  obtain ⟨mA, O, _⟩ := ins_get I.hok ea
  obtain ⟨od, J, _⟩ := O.look
  refine PySem.W.in_K fr I.ok.mod.kin J c.at_ c.fn ?_
  refine wpAny_mono (run_fn (us := [.ref a, v]) (vs := [.ref a, x]) (ds := []) (dvs := []) F hr hb .nil hx I (.cons rfl (.cons rx .nil)) q) (fun u' s' h' => ?_) fun _ _ z => z
  obtain ⟨w, H', I', rw', b, rfl, q'⟩ := h'
  cases (show u' = Value.bool b from rw')
  refine wpAny_pure ⟨.bl b, H', I', rfl, ?_⟩
  cases b <;> exact q'
theorem op_notInO (c : InC X.K C f) (F : FnOk X.prog X.w X.K X.mg X.base CX k f fd ps sp) (hr : Room k X.A) (hb : Binds X.K fd ps []) (hx : Passes CX X E) : OpR X (compareOp .NotIn) (rInO true C sp E) := by
  intro pins s σ H x y v u Q I rx ry h
  obtain ⟨a, dx, fs, rfl, ea, q⟩ := h
  obtain rfl : u = Value.ref a := ry
  obtain ⟨m, fr⟩ := I.fr
  obtain ⟨mA, O, _⟩ := ins_get I.hok ea
  obtain ⟨od, J, _⟩ := O.look
  refine PySem.W.notIn_K fr I.ok.mod.kin J c.at_ c.fn ?_
  refine wpAny_mono (run_fn (us := [.ref a, v]) (vs := [.ref a, x]) (ds := []) (dvs := []) F hr hb .nil hx I (.cons rfl (.cons rx .nil)) q) (fun u' s' h' => ?_) fun _ _ z => z
  obtain ⟨w, H', I', rw', b, rfl, q'⟩ := h'
  cases (show u' = Value.bool b from rw')
  refine wpAny_pure ⟨.bl (!b), H', I', rfl, ?_⟩
  cases b <;> exact q'
/-- a[y], a of the class at C -/
def rItO (C : Addr) (sp : Sp) (E : XK) : R2 := fun x y H Q => ∃ a dx fs, x = .ref a ∧ H a = some (.ins C dx fs) ∧ sp [.ref a, y] H Q E
theorem op_itO (c : ItC X.K C f) (F : FnOk X.prog X.w X.K X.mg X.base CX k f fd ps sp) (hr : Room k X.A) (hb : Binds X.K fd ps []) (hx : Passes CX X E) : OpR X getItem (rItO C sp E) := by
  intro pins s σ H x y v u Q I rx ry h
  obtain ⟨a, dx, fs, rfl, ea, q⟩ := h
  obtain rfl : v = Value.ref a := rx
  obtain ⟨m, fr⟩ := I.fr
  obtain ⟨mA, O, _⟩ := ins_get I.hok ea
  obtain ⟨od, J, _⟩ := O.look
  refine PySem.W.getItem_K fr I.ok.mod.kin J c.ns c.at_ c.fn ?_
  exact run_fn (us := [.ref a, u]) (vs := [.ref a, y]) (ds := []) (dvs := []) F hr hb .nil hx I (.cons rfl (.cons ry .nil)) q
end
end El

set_option Elab.async false
set_option linter.all false
set_option maxRecDepth 100000
set_option maxHeartbeats 4000000
/-! Own words: iterating an own class whose `__iter__` returns iter(..) of a tuple. -/
namespace El
open PySem PySem.Spec PyProof.Rows L2
/-- a promise that may speak of how many objects there were at the call -/
def FnS (P : Program) (w : World) (K : PySem.W.Frag) (mg : Str → Option Value) (base : Heap) (CX : CXT) (k : Nat) (f : Addr) (sp : Nat → Sp) : Prop :=
  ∀ (A : Around) (outer : List Env) (s : Shared) (H : Hp) (us : List Value) (vs : List V) (Q : VK) (E : XK), Room k A → Env0 P w K mg base A outer s H → Vals vs us → sp s.heap.objs.size vs H Q E →
    codeAny (model P w) A (.call (.ref f) ⟨us, []⟩) (CR CX outer P w H s Q E) s
section
variable {P : Program} {w : World} {K : PySem.W.Frag} {mg : Str → Option Value} {base : Heap} {j k : Nat} {f : Addr} {sp : Nat → Sp}
theorem FnS.mono {CX : CXT} (F : FnS P w K mg base CX j f sp) (h : j ≤ k) : FnS P w K mg base CX k f sp := fun A outer s H us vs Q E hr => F A outer s H us vs Q E (hr.mono h)
theorem fun_okS {x qual : Str} {st : Stmt} {fd : FuncData} {N ps : List Str} (F : Fun K x qual st f fd) (S : FnScope N ps (defScope st)) (hb : Binds K fd ps []) (len : ∀ n vs H Q E, sp n vs H Q E → vs.length = ps.length)
    (hbody : ∀ (cdv : Value) (A : Around) (outer : List Env) (s : Shared) (H : Hp) (vs : List V) (Q : VK) (E : XK), Room k (A.deeper (envOfC qual (defScope st) s.heap.objs.size f cdv)) → sp s.heap.objs.size vs H Q E →
      ∃ t, PSs (cxOf CX0 P w K mg base N qual (defScope st) f cdv A outer s H E).nox (defBody st) t ∧ t { nx := fun _ H' => Q .non H', rt := Q } (start N vs) H) : FnS P w K mg base CX0 (k + 1) f sp := by
  obtain ⟨oc, od, kV, doc, pm, an, cdv, ct, osl, rfl, lk, hcd⟩ := F.ex
  intro A outer s H us vs Q E hr e0 r hsp
  have hl := len _ _ _ _ _ hsp
  have KX : K.In s.heap := e0.mod.kin.keeps fun b o e => (e0.bs b o e).1
  have bt := hb s us KX (by rw [List.append_nil, ← r.length]; exact hl)
  rw [List.append_nil] at bt
  have nl : s.heap.NoLimit := e0.mod.nolimit.keeps fun b o e => (e0.bs b o e).1
  refine codeAny_call_function hr.depth (KX _ _ lk) rfl S.co S.gen rfl (PySem.W.codeRec_of KX hcd) (bt _ _ _ _ ?_)
  refine wpAny_newFunctionEnv_cells S.kind (fun y hy => (S.par y.1 (List.of_mem_zip hy).1).imp id fun q => ⟨q, PySem.W.cellsFrom_some _ _ _ (.inl q)⟩) fun env he s1 x => ⟨nl.keeps x.toInCall.keep, codeAny_func ?_⟩
  subst he
  obtain ⟨t, ht, hq⟩ := hbody cdv A outer s H vs Q E (hr.deeper _) hsp
  have I := inv_start (CX := CX0) (w := w) (E := E) S hr.hd e0 hl r x
  refine wpAny_mono (ht.nox.run [] s1 (start N vs) H _ I hq) (fun fl s' hs => ?_) fun _ _ hs => hs
  match fl, hs with
  | .ret u, ⟨v, σ', H', J, rv, q⟩ => exact ⟨v, H', J.os, J.bare, J.base, J.hok, rv, q⟩
  | .next, ⟨σ', H', J, q⟩ => exact ⟨V.non, H', J.os, J.bare, J.base, J.hok, rfl, q⟩
  | .brk, ⟨_, _, _, q⟩ => exact False.elim q
  | .cont, ⟨_, _, _, q⟩ => exact False.elim q
end

/-! ### iter(..) of a tuple -/
def tiObj (t : Addr) : Obj := { cls := .type "tuple_iterator", data := .fields #[.ref t, .int 0 0] }
/-- at it the iterator of the tuple at t, at its beginning -/
def TitO (t it : Addr) : HO := .ext fun h => h.get? it = some (tiObj t)
theorem titO_ok {P : Program} {w : World} {H : Hp} {h : Heap} {t it : Addr} (e : h.get? it = some (tiObj t)) : ObjOk P w H h it (TitO t it) := ⟨e, ⟨_, e⟩, fun _ _ q k => k _ q⟩
theorem titO_get {X : Cx} {pins : List (Addr × Obj)} {σ : L2.St} {H : Hp} {s : Shared} {t it : Addr} (I : Inv X pins σ H s) (e : H it = some (TitO t it)) : s.heap.get? it = some (tiObj t) := (I.hok it _ e).1
def rIterT (K : PySem.W.Frag) (n : Nat) : List V → Hp → VK → Prop := fun xs H Q => ∃ (t : Addr) (zs : List V), xs = [.ref t] ∧ SqT K H t zs ∧ ∀ it, H it = none → n ≤ it → Q (.ref it) (upd H it (TitO t it))
theorem run_iterT {prog : Program} {w : World} {A : Around} {E : Value → Shared → Prop} {s : Shared} {t : Addr} {items : Array Value} {Q : Value → Shared → Prop} (ht : s.heap.IsTuple t items) (h : Q (.ref s.heap.objs.size) { s with heap := s.heap.push (tiObj t) }) : wpAny (model prog w) A (call (.builtin "iter") [.ref t]) Q E s := by
  refine Calls.call_function_entry (by decide +kernel) (by decide +kernel) PySem.W.kdk_entry_iter (PySem.W.kdk_args_iter _) ?_
  unfold Builtin.«iter»
  refine wpAny_bind (m := someArgs "iter" 1 2 _) (wpAny_of_eq (a := [Value.ref t]) (by first | rfl | kernel_rfl!) ?_)
  exact wpAny_bind (wpAny_pyIter_tuple ht (wpAny_pure ⟨_, rfl, h⟩))
theorem call_iterT {X : Cx} : CallR X (.builtin "iter") (rIterT X.K X.s_0.heap.objs.size) := by
  intro pins s σ H xs us Q I r h
  obtain ⟨t, zs, rfl, hq, q⟩ := h
  obtain rfl := Vals.ref1 r
  obtain ⟨its, rv, p, hz⟩ := I.tuple hq
  refine run_iterT (show s.heap.IsTuple t its.toArray from p) ?_
  exact ⟨.ref s.heap.objs.size, _, I.laid (t' := s.toks) (fun b u e => Heap.get?_push_of_some _ e) (Nat.le_refl _) (titO_ok (Heap.get?_push_size _ rfl)), rfl, q _ (I.hok.fresh (Nat.le_refl _)) I.sz⟩
theorem iterTK {X : Cx} (K : PySem.W.Frag) (n : Nat) (h : X.K = K := by rfl) (hn : X.s_0.heap.objs.size = n := by rfl) : CallR X (.builtin "iter") (rIterT K n) := h ▸ hn ▸ call_iterT

/-! ### for x in a, a of the class at C -/
structure OitC (K : PySem.W.Frag) (C f : Addr) : Prop where
  at_ : PySem.W.findIn K (.ref C) "__iter__" = some (some (.ref f))
  fn : PySem.W.isFn K (.ref f) = true
/-- behind the call the iterator is forgotten -/
def iOwnT (K : PySem.W.Frag) (C : Addr) (sp : Nat → Sp) (n : Nat) (E : XK) (te : TE) : TI := fun σ H R => te σ H fun x H1 => ∃ a dx fs, x = .ref a ∧ H1 a = some (.ins C dx fs) ∧ ∀ m, n ≤ m → sp m [.ref a] H1 (fun v H2 => ∃ t it, v = .ref it ∧ H2 it = some (TitO t it) ∧ n ≤ it ∧ R (Itt K t) (ItX.dropH H2 it)) E
theorem pi_ownT {X : Cx} {CX : CXT} {k : Nat} {C f : Addr} {sp : Nat → Sp} {E : XK} {tg e : Expr} {te : TE} (c : OitC X.K C f) (F : FnS X.prog X.w X.K X.mg X.base CX k f sp) (hr : Room k X.A) (hx : Passes CX X E) (he : PE X e te) : PI X tg e (iOwnT X.K C sp X.s_0.heap.objs.size E te) := by
  refine ⟨fun pins s σ H R I h => ?_⟩
  refine thn (he.run pins s σ H _ I h) fun v s1 ⟨x, H1, I1, r1, a, dx, fs, ex, ea, q⟩ => ?_
  subst ex
  obtain rfl : v = Value.ref a := r1
  obtain ⟨m, fr⟩ := I1.fr
  obtain ⟨mA, O, _⟩ := ins_get I1.hok ea
  obtain ⟨od, J, _⟩ := O.look
  refine PySem.W.owit_iter fr I1.ok.mod.kin J c.at_ c.fn ?_
  refine wpAny_call (codeAny_mono (F X.A X.stack s1 H1 [.ref a] [.ref a] _ E hr I1.env0 (.cons rfl .nil) (q _ I1.sz)) fun r s' hq => ?_)
  match r, hq with
  | .error e, hq => exact hx pins σ H1 s1 e s' I1 hq
  | .ok (.ret u), hq =>
    obtain ⟨w', H2, I2, rw', t, it, rfl, hi, hn, hR⟩ := I1.after hq
    obtain rfl : u = Value.ref it := rw'
    have eo := titO_get I2 hi
    have hi' := hi
    unfold TitO at hi'
    have LT : PySem.W.Looks (model X.prog X.w) s'.heap (typeOf (.ref it)) (.type "tuple_iterator") := (PySem.W.Looks.ld (part := none) eo).andThen .now
    have LN : PySem.W.Looks (model X.prog X.w) s'.heap (specialOf (.ref it) (Str.ofString "__next__")) (some (.builtin "tuple_iterator.__next__")) := LT.andThen (PySem.W.Looks.of_pure slot_tupleiter_next.lookup)
    refine LN.here ?_
    refine ⟨it, [it], _, _, ItX.dropH H2 it, rfl, ItX.inv_drop I2 hi', turn_tuple t it, ⟨_, eo, rfl, rfl⟩, fun b hb => ?_, hR⟩
    have e : b = it := by simpa using hb
    rw [e]
    exact ItX.inv_fp I2 hi hn
  | .ok .next, hq => exact False.elim hq
  | .ok .brk, hq => exact False.elim hq
  | .ok .cont, hq => exact False.elim hq
end El

set_option Elab.async false
set_option linter.all false
set_option maxRecDepth 100000
set_option maxHeartbeats 4000000
/-! Own words: len(set(t)) of a tuple of any number of texts. -/
namespace El
open PySem PySem.Spec PyProof.Rows L2
/-- among the first i texts -/
def Has (xs : List Str) (i : Nat) : Str → Bool := fun y => (xs.take i).any (· == y)
/-- c different ones among the first i, as far as it is asked -/
def Cnt (xs : List Str) (i c : Nat) : Prop := c ≤ i ∧ (c = i ↔ (xs.take i).Nodup)
theorem has_iff {xs : List Str} {i : Nat} {y : Str} : Has xs i y = true ↔ y ∈ xs.take i := by
  unfold Has
  rw [List.any_eq_true]
  constructor
  · rintro ⟨z, hz, e⟩
    rw [beq_iff_eq] at e
    exact e ▸ hz
  · intro h
    exact ⟨y, h, beq_iff_eq.mpr rfl⟩
theorem take_more {xs : List Str} {i : Nat} {x : Str} (e : xs[i]? = some x) : xs.take (i + 1) = xs.take i ++ [x] := by rw [List.take_add_one, e]; rfl
theorem Cnt.nil (xs : List Str) : Cnt xs 0 0 := ⟨Nat.le_refl _, by simp⟩
theorem Cnt.more {xs : List Str} {i c : Nat} {x : Str} (h : Cnt xs i c) (e : xs[i]? = some x) : Cnt xs (i + 1) (if Has xs i x = true then c else c + 1) := by
  obtain ⟨h1, h2⟩ := h
  have hn : (xs.take (i + 1)).Nodup ↔ (xs.take i).Nodup ∧ x ∉ xs.take i := by
    rw [take_more e, List.nodup_append]
    constructor
    · rintro ⟨a, -, b⟩
      exact ⟨a, fun hx => b x hx x (List.mem_singleton.mpr rfl) rfl⟩
    · rintro ⟨a, b⟩
      refine ⟨a, by simp, fun y hy z hz => ?_⟩
      rw [List.mem_singleton] at hz
      intro q
      exact b (hz ▸ q ▸ hy)
  unfold Cnt
  rw [hn]
  by_cases q : Has xs i x = true
  · rw [if_pos q]
    refine ⟨by omega, ⟨fun z => absurd z (by omega), fun z => absurd (has_iff.mp q) z.2⟩⟩
  · rw [if_neg q]
    refine ⟨by omega, ⟨fun z => ⟨h2.mp (by omega), fun y => q (has_iff.mpr y)⟩, fun z => by rw [h2.mpr z.1]⟩⟩
section
variable {prog : Program} {w : World} {A : Around} {R : Result → Shared → Prop} {it : Addr} {fp wr : List Addr} {G : Array GenState → Array GenState → Prop} {n : Nat} {Pv : Nat → Value → Prop} {St : Nat → Shared → Prop}
theorem loopTx (W : WalksS prog w A.in1 it fp wr G n Pv St) (b : Addr) (hb : b ∉ fp) (xs : List Str) (hn : xs.length = n) (hs : n + 1 < scanBound) (hv : ∀ i v, Pv i v → ∃ t, v = .str (xs.getD i Str.empty) t) :
    ∀ (k i : Nat) (s : Shared), n - i = k → i ≤ n → St i s → (∃ c, Cnt xs i c ∧ s.heap.SetOf (PySem.strKind prog w) b (Has xs i) c) →
      (∀ s' c, Moved (b :: wr) G s s' → Cnt xs n c → s'.heap.SetOf (PySem.strKind prog w) b (Has xs n) c → R (.ok (.ret .none)) s') →
      codeAny (model prog w) A (.builtin "set.update.loop" ⟨[.ref b, .ref it], []⟩) R s := by
  have hbw : b ∉ wr := fun h => hb (W.sub _ h)
  have wsub : ∀ q ∈ wr, q ∈ b :: wr := fun q hq => List.mem_cons_of_mem _ hq
  intro k
  induction k with
  | zero =>
    rintro i s hk hi st ⟨c, hc, ho⟩ done
    obtain rfl : i = n := by omega
    refine codeAny_builtin PyProof.Rows.F.entry_set_update_loop ?_
    rw [Around.under_plainId PyProof.Rows.F.plain_set_update_loop _]
    refine wpAny_bind (m := pyNext (.ref it)) (W.done s _ _ st fun s1 mv => ?_)
    refine wpAny_pure (done s1 c (mv.mono wsub) hc ?_)
    obtain ⟨o, es, ep, tb, e, more⟩ := ho
    exact ⟨o, es, ep, tb, mv.heap b _ hbw e, more⟩
  | succ k ih =>
    rintro i s hk hi st ⟨c, hc, ho⟩ done
    have lt : i < n := by omega
    refine codeAny_builtin PyProof.Rows.F.entry_set_update_loop ?_
    rw [Around.under_plainId PyProof.Rows.F.plain_set_update_loop _]
    refine wpAny_bind (m := pyNext (.ref it)) (W.item i s _ _ lt st fun v s1 pv st1 mv => ?_)
    obtain ⟨t, rfl⟩ := hv i v pv
    have ei : xs[i]? = some (xs.getD i Str.empty) := by
      rw [List.getD_eq_getElem?_getD, List.getElem?_eq_getElem (by omega)]; rfl
    have ho1 : s1.heap.SetOf (PySem.strKind prog w) b (Has xs i) c := by
      obtain ⟨o, es, ep, tb, e, more⟩ := ho
      exact ⟨o, es, ep, tb, mv.heap b _ hbw e, more⟩
    refine wpAny_bind (m := holding [Value.str (xs.getD i Str.empty) t] (setAdd b (.str (xs.getD i Str.empty) t))) (wpAny_holding ?_)
    unfold setAdd
    refine wpAny_holding (wpAny_bind ((PySem.strKind prog w).pyHash (strKind_is _ _ _ _) ?_))
    have hlt : c + 1 < scanBound := by have := hc.1; omega
    refine wpAny_setAddHashed_of (knd := PySem.strKind prog w) (s := { s1 with toks := s1.toks + 1 }) (strKind_is _ _ _ _) rfl ho1 hlt fun h' same ho2 => ?_
    have ho3 : h'.SetOf (PySem.strKind prog w) b (Has xs (i + 1)) (if Has xs i (xs.getD i Str.empty) = true then c else c + 1) := by
      refine SetOf_congr ho2 (fun y => ?_) rfl
      rw [Bool.eq_iff_iff, has_iff, take_more ei, List.mem_append, List.mem_singleton, Bool.or_eq_true, has_iff, decide_eq_true_iff]
    refine wpAny_pure ⟨plainId_quiet PyProof.Rows.F.plain_set_update_loop _, ih (i + 1) _ (by omega) lt (W.frame _ s1 _ _ st1 (Nat.le_succ _) fun q hq o e => ?_) ⟨_, hc.more ei, ho3⟩ fun s2 c2 mv2 hc2 hS2 => ?_⟩
    · exact (same.2 q fun z => hb (z ▸ hq)).trans e
    · refine done s2 c2 (Moved.trans W.gtrans ((mv.mono wsub).then_heap (Nat.le_succ _) fun q o hq e => ?_) mv2) hc2 hS2
      exact (same.2 q fun z => hq (z ▸ List.mem_cons_self)).trans e
end
/-- a new set's object -/
def setObj (led : Bool) : Obj := { cls := .type "set", dict := none, data := .set #[] 0 (.fresh 0 0 led) }
section
variable {prog : Program} {w : World} {A : Around} {E : Value → Shared → Prop} {s : Shared}
/-- what set.__init__ does to a new set with a tuple of texts -/
theorem init_tx {l : Addr} {items : Array Value} {xs : List Str} {led : Bool} (hh : A.handled = none) (hl : s.heap.IsTuple l items) (hi : PyProof.Rows.StrsAre items.toList xs) (hx : xs.length + 1 < scanBound) :
    codeAny (model prog w) A (.call (.builtin "set.__init__") ⟨[.ref s.heap.objs.size, .ref l], []⟩)
      (wants (fun r s2 => r = .none ∧ ∃ h' tk c, s2 = { s with heap := h', toks := tk } ∧ Cnt xs xs.length c ∧ h'.SetOf (PySem.strKind prog w) s.heap.objs.size (Has xs xs.length) c ∧ (∀ q o, s.heap.get? q = some o → h'.get? q = some o)) E)
      { s with heap := s.heap.push (setObj led) } := by
  have hT : Shared.TypeIs { s with heap := s.heap.push (setObj led) } (.ref s.heap.objs.size) "set" := ⟨_, Heap.get?_push_size _ rfl, rfl⟩
  refine codeAny_call_builtin PySem.F.called_set.init.plain PySem.F.entry_set_init (check_set_init_1 hT ?_)
  obtain ⟨⟨kc, kd, kx, ks⟩, hol, hcl, nl, hdl⟩ := hl
  simp only at hcl hdl
  subst hcl hdl
  have hol' : (s.heap.push (setObj led)).get? l = some _ := Heap.get?_push_of_some _ hol
  have hl1 : (s.heap.push (setObj led)).IsTuple l items := ⟨_, hol', rfl, nl, rfl⟩
  have hsls := PySem.F.sub_tuple_set
  have hslf := PySem.F.sub_tuple_frozenset
  have hne : (Value.type "tuple" == Value.type "dict") = false := by decide
  unfold Builtin.«set.__init__» noKeywords Builtin.Frozenset.updateFrom
  generalize ePI : pyIter = PI
  wp_walk
  subst ePI
  refine wpAny_pyIter_tuple hl1 (wpAny_bind (wpAny_runValue ?_))
  have below : l < s.heap.objs.size := Heap.lt_size hol
  have nh : A.in1.in1.handled = none := by simp [hh]
  have z1 : (s.heap.push (setObj led)).objs.size = s.heap.objs.size + 1 := Heap.size_push ..
  have apart : l ≠ (s.heap.push (setObj led)).objs.size := by
    rw [z1]
    exact Nat.ne_of_lt (Nat.lt_succ_of_lt below)
  have out : s.heap.objs.size ∉ [(s.heap.push (setObj led)).objs.size, l] := by
    rw [List.mem_cons, List.mem_singleton, z1]
    exact fun q => q.elim (Nat.ne_of_lt (Nat.lt_succ_self _)) (Nat.ne_of_gt below)
  have zx : xs.length = items.size := by rw [← StrsAre.len_eq hi, Array.length_toList]
  refine loopTx ((Walks.tuple nh _ l apart items).toS) s.heap.objs.size out xs zx (zx ▸ hx) (fun i v e => SS.strs_at hi i v (Array.getElem?_toList ▸ e)) (items.size - 0) 0 _ (by omega) (Nat.zero_le _) ?at_ ?first ?last
  case at_ => exact ⟨⟨_, Heap.get?_push_size _ rfl, rfl, rfl⟩, hl1.push _⟩
  case first =>
    refine ⟨0, Cnt.nil xs, ?_⟩
    refine SetOf_congr ((PyProof.Rows.setObjOf_fresh (knd := PySem.strKind prog w) led).setOf (Heap.get?_push_of_some _ (Heap.get?_push_size _ rfl)) (by unfold scanBound; omega)) (fun y => ?_) rfl
    rfl
  case last =>
    rintro ⟨h', g', d', tk', os'⟩ c mv hc ho
    obtain rfl : g' = s.gens := mv.gens
    obtain rfl : d' = s.drawn := mv.drawn
    obtain rfl : os' = s.os := mv.os
    refine wpAny_pure (wpAny_pure ⟨rfl, h', tk', c, rfl, zx ▸ hc, zx ▸ ho, fun q o e => ?_⟩)
    have lq := Heap.lt_size e
    refine mv.heap q o (by rw [List.mem_cons, List.mem_singleton, z1]; exact fun z => z.elim (Nat.ne_of_lt lq) (Nat.ne_of_lt (Nat.lt_succ_of_lt lq))) (Heap.get?_push_of_some _ (Heap.get?_push_of_some _ e))
set_option maxHeartbeats 8000000 in
theorem call_set_tx {l : Addr} {items : Array Value} {xs : List Str} {Q : Value → Shared → Prop} (hh : A.handled = none) (hl : s.heap.IsTuple l items) (hi : PyProof.Rows.StrsAre items.toList xs) (hx : xs.length + 1 < scanBound)
    (h : ∀ (h' : Heap) (tk c : Nat), Cnt xs xs.length c → h'.SetOf (PySem.strKind prog w) s.heap.objs.size (Has xs xs.length) c → (∀ q o, s.heap.get? q = some o → h'.get? q = some o) → Q (.ref s.heap.objs.size) { s with heap := h', toks := tk }) :
    wpAny (model prog w) A (call (.type "set") [.ref l]) Q E s := by
  obtain ⟨_, _, hmro⟩ := PySem.F.called_set.mro
  have hmade := PySem.F.called_set.made
  have hsub := PySem.F.called_set.sub
  have h1 := PySem.F.called_set.notType
  have h2 := PySem.F.called_set.canCreate
  have hct := PySem.F.typeCall_set_1 (.ref l)
  refine wpAny_call (codeAny_of_tree (wpAny_pure (a := _) ⟨Code.quiet_builtin _ (by decide +kernel), codeAny_builtin PySem.F.entry_type_call ?_⟩))
  rw [Around.under_plain (weight_type_call_type "set" [.ref l] []) rfl]
  repeat (any_goals (first | assumption | wp_step))
  refine codeAny_mono (code_set_new_1 (.ref l) (E := E) (Q₁ := fun v s1 => ∃ led, v = .ref s.heap.objs.size ∧ s1 = { s with heap := s.heap.push (setObj led) }) fun led => ⟨led, rfl, rfl⟩) fun r s1 hr => ?_
  match r, hr with
  | .ok (.ret v), hr =>
    obtain ⟨led, rfl, rfl⟩ := hr
    have hS : (s.heap.push (setObj led)).get? s.heap.objs.size = some (setObj led) := Heap.get?_push_size _ rfl
    have hT : Shared.TypeIs { s with heap := s.heap.push (setObj led) } (.ref s.heap.objs.size) "set" := ⟨_, hS, rfl⟩
    have hli := PySem.F.called_set.init.lookup
    have hbi := PySem.F.called_set.init.bind (.ref s.heap.objs.size)
    repeat (any_goals (first | assumption | wp_step))
    refine codeAny_mono (init_tx (E := E) (by simp [hh]) hl hi hx) fun r s2 hr => ?_
    match r, hr with
    | .ok (.ret v), hr =>
      obtain ⟨rfl, h', tk, c, rfl, hc, ho, keep⟩ := hr
      repeat (any_goals (first | assumption | wp_step))
      exact h h' tk c hc ho keep
    | .error e, hr => exact hr
    | .ok .next, hr => exact hr.elim
    | .ok .brk, hr => exact hr.elim
    | .ok .cont, hr => exact hr.elim
  | .error e, hr => exact hr
  | .ok .next, hr => exact hr.elim
  | .ok .brk, hr => exact hr.elim
  | .ok .cont, hr => exact hr.elim
end
/-- len(set(t)), t a tuple of texts: how many different ones, so far as it matters here -/
def tLenSetTx (K : PySem.W.Frag) (ta : TE) : TE := fun σ H Q => ta σ H fun x H1 => ∃ (l : Addr) (xs : List Str), x = .ref l ∧ SqT K H1 l (xs.map V.str) ∧ xs.length < 64 ∧ ∀ c : Nat, c ≤ xs.length → (c = xs.length ↔ xs.Nodup) → Q (.int c) H1
theorem pe_lenSetTx {X : Cx} {a : Expr} {ta : TE} {p p2 q pos : Pos} (hg : Gl X "len") (hm : X.mg "len" = none) (hg2 : Gl X "set") (hm2 : X.mg "set" = none) (ha : PE X a ta) (hc : X.calm = true := by rfl)
    (na : starEach [a] X.env = (false, eval a X.env) :: starEach [] X.env := by rfl) : PE X (.Call (.Name "len" p) [.Call (.Name "set" p2) [a] [] q] [] pos) (tLenSetTx X.K ta) := by
  refine ⟨fun pins s σ H Q I h => Call_ (ld_blt I hg hm boot_len (PyProof.Rows.callWith_builtin1 (PyProof.Rows.args_cons (Call_ (ld_blt I hg2 hm2 boot_set (PyProof.Rows.callWith_type1 (PyProof.Rows.args_cons (thn (ha.run pins s σ H _ I h) fun v s1 ⟨x, H1, I1, r1, q1⟩ => PyProof.Rows.args_nil ?_) na) na rfl))) rfl) rfl rfl))⟩
  obtain ⟨l, xs, rfl, ht, few, q1⟩ := q1
  obtain rfl : v = Value.ref l := r1
  obtain ⟨its, rv, pl, _⟩ := I1.tuple ht
  refine call_set_tx (I1.ok.hd hc) pl (by simpa using strsAre_of rv) (by unfold scanBound; omega) fun h' tk c hcn hS keep => PyProof.Rows.args_nil ?_
  obtain ⟨o, es, ep, tb, ho, hex, hd, _, _, _, hf, hn⟩ := hS
  have I2 : Inv X pins σ H1 { s1 with heap := h', toks := tk } := I1.kept keep
  obtain ⟨c1, c2⟩ := hcn
  rw [List.take_length] at c2
  exact call_len_set ho hex hd hf (by rw [hn]; omega) ⟨.int c, H1, I2.tok _, ⟨_, by rw [hn]⟩, q1 c c1 c2⟩
end El

set_option Elab.async false
set_option linter.all false
set_option maxRecDepth 100000
set_option maxHeartbeats 4000000
/-! Own words: enumerate(t) of a tuple. -/
namespace El
open PySem PySem.Spec PyProof.Rows L2
open AutoSeq1 (wpAny_loadPart')
/-- the tuple at a, each item in a new pair with its place -/
def IteT (K : PySem.W.Frag) (a : Addr) : It where
  go := fun i H => ∃ (xs : List V) (x : V), SqT K H a xs ∧ xs[i]? = some x
  yld := fun i H v H' => ∃ T x, v = .ref T ∧ H T = none ∧ H' = upd H T (.tup [.int (i : Nat), x]) ∧ ∀ xs, SqT K H a xs → xs[i]? = some x
  stop := fun i H => ∃ xs : List V, SqT K H a xs ∧ xs.length ≤ i
theorem walk_enumT {K : PySem.W.Frag} {a : Addr} {xs : List V} : Walk (IteT K a) xs.length (fun H => SqT K H a xs) (YPair (fun i => some (.int (i : Nat))) (fun i => xs[i]?)) where
  goes := fun i _ hi q => ⟨xs, xs[i], q, by simp [hi]⟩
  stops := fun _ q => ⟨xs, q, Nat.le_refl _⟩
  yields := fun i H v H' _ q y => by
    obtain ⟨T, x, h1, h2, h3, h4⟩ := y
    exact ⟨T, .int (i : Nat), x, h1, h2, h3, rfl, h4 xs q⟩
/-- the object of an enumerate over it, at its beginning -/
def enObj (it : Addr) : Obj := { cls := .type "enumerate", data := .fields #[.none, .bool false, .ref it, rawInt 0, .none, .none] }
theorem enum_newT (t : Addr) (items : Array Value) (n : Nat) (dct : Option Addr) (sl : Array (Option Value)) :
    Meets (Builtin.«enumerate.__new__» ⟨[.type "enumerate", .ref t], []⟩) (fun _ R s => s.heap.get? t = some ⟨.type "tuple", dct, .seq items n, sl⟩ ∧ R (.ok (.ret (.ref (s.heap.push (tiObj t)).objs.size))) { s with heap := (s.heap.push (tiObj t)).push (enObj s.heap.objs.size) }) :=
  .of_wp fun prog w A R s h => by
    obtain ⟨hp, g, d, tk, os⟩ := s
    obtain ⟨ht, h⟩ := h
    have hsub := sub_enumerate
    have hT : Heap.IsTuple (Shared.heap ⟨hp, g, d, tk, os⟩) t items := ⟨_, ht, rfl, n, rfl⟩
    wp_walk using wpAny_loadPart' ht
    refine wpAny_stack_any fun st => wpAny_pure ?_
    split
    · rename_i c _ _ _ _ _
      cases (c == Value.type "enumerate") <;> (wp_walk using wpAny_loadPart' ht, wpAny_pyIter_tuple hT; exact ⟨_, rfl, h⟩)
    · wp_walk using wpAny_loadPart' ht, wpAny_pyIter_tuple hT
      exact ⟨_, rfl, h⟩
section
variable {prog : Program} {w : World} {A : Around} {E : Value → Shared → Prop} {s : Shared}
theorem call_enumT {t : Addr} {items : Array Value} {Q : Value → Shared → Prop} (hT : s.heap.IsTuple t items)
    (h : ∀ h', IsEnum h' (s.heap.objs.size + 1) s.heap.objs.size 0 .none → h'.IsTupleIter s.heap.objs.size t 0 → (∀ b o, s.heap.get? b = some o → h'.get? b = some o) → Q (.ref (s.heap.objs.size + 1)) { s with heap := h' }) :
    wpAny (model prog w) A (call (.type "enumerate") [.ref t]) Q E s := by
  obtain ⟨⟨c, dct, dt, sl⟩, ht, hc, n, hd⟩ := hT
  simp only at hc hd
  subst hc hd
  refine callType_new F.called_enumerate (by decide) (F.typeCall_enumerate_1 _) (F.newCall_enumerate_1 _) (fun obj => F.args_object_init_2 obj _) F.entry_enumerate_new (enum_newT t items n dct sl) ⟨ht, ?_⟩
  have hz : (s.heap.push (tiObj t)).objs.size = s.heap.objs.size + 1 := Heap.size_push ..
  have he : IsEnum ((s.heap.push (tiObj t)).push (enObj s.heap.objs.size)) (s.heap.objs.size + 1) s.heap.objs.size 0 .none := by
    have q := Heap.get?_push_size (s.heap.push (tiObj t)) (o := enObj s.heap.objs.size) rfl
    rw [hz] at q
    exact q
  rw [hz]
  exact ⟨⟨_, he, rfl⟩, h _ he ⟨_, Heap.get?_push_of_some _ (Heap.get?_push_size _ rfl), rfl, rfl⟩ fun b o x => Heap.get?_push_of_some _ (Heap.get?_push_of_some _ x)⟩
end
theorem turn_enumT {P : Program} {w : World} {K : PySem.W.Frag} {elts : List Expr} {kk : Nat} {tpos : Pos} (t e it : Addr) (items : Array Value) :
    Turn P w K (.Tuple elts kk tpos) (IteT K t) [e, it] e (fun i h => (∃ old, IsEnum h e it ((i : Nat) : Int) old) ∧ h.IsTupleIter it t i ∧ e ≠ it ∧ t ≠ it ∧ t ≠ e) where
  mem := List.mem_cons_self
  obj := fun i h st b hb => by
    obtain ⟨⟨old, he⟩, ⟨o, ho, hc, hd⟩, _⟩ := st
    rw [List.mem_cons, List.mem_singleton] at hb
    rcases hb with z | z
    · exact z ▸ ⟨_, he, fun v q => nomatch q⟩
    · exact z ▸ ⟨o, ho, fun v q => by rw [hd] at q; cases q⟩
  keep := fun i h h' st k => by
    obtain ⟨⟨old, he⟩, hi, hne⟩ := st
    exact ⟨⟨old, k e List.mem_cons_self _ he⟩, hi.at fun o q => k it (List.mem_cons_of_mem _ List.mem_cons_self) o q, hne⟩
  item := by
    intro X hP hw hK hc i pins s σ H E I hf st hg
    subst hP hw hK
    obtain ⟨⟨old, he⟩, hit, hne, n1, n2⟩ := st
    obtain ⟨xs, x, hq, hx⟩ := hg
    obtain ⟨its, rv, p, hz⟩ := I.tuple hq
    obtain ⟨u, hu, ru⟩ := rv.get hx
    have lt : i < its.toArray.size := by
      have := (List.getElem?_eq_some_iff.mp hu).1
      simpa using this
    have le : e < s.heap.objs.size := Heap.lt_size he
    have li : it < s.heap.objs.size := by obtain ⟨_, q, _⟩ := hit; exact Heap.lt_size q
    have nf : e ∉ [it, t] := by
      rw [List.mem_cons, List.mem_singleton]
      exact fun z => z.elim hne fun z => n2 z.symm
    refine wpAny_pyNext_enum_itemD (Draws.tuple (A := X.A.in1) (by simpa using I.ok.hd hc) it t n1 its.toArray) he ⟨hit, p⟩ lt hne nf fun v h' tk hv ho hit' hT hsz hk => ?_
    obtain rfl : v = u := by
      have e1 : its.toArray[i]? = some u := by simpa using hu
      exact Option.some.inj (hv.symm.trans e1)
    refine ⟨_, rfl, wpAny_letOwnedTupleGo_enum (s := { s with heap := h', toks := tk + 1 }) ho fun h'' he' sb => ?_⟩
    have hT2 := (sb.2 _ (Nat.ne_of_gt le)).trans hT
    have new : ObjOk X.prog X.w (upd H s.heap.objs.size (.tup [.int (i : Nat), x])) h'' s.heap.objs.size (.tup [.int (i : Nat), x]) :=
      ⟨by show 2 ≤ sizeLine; decide, [.int i tk, v], .cons ⟨_, rfl⟩ (.cons ru .nil), ⟨_, hT2, rfl, _, rfl⟩⟩
    have I1 : Inv X pins σ (upd H s.heap.objs.size (.tup [.int (i : Nat), x])) { s with heap := h'', toks := tk + 1 } := by
      refine I.turnedNew (ch := [e, it]) (fun b ob hb q => ?_) hf (Nat.le_refl _) new
      rw [List.mem_cons, List.mem_singleton, not_or] at hb
      exact (sb.2 b hb.1).trans (hk b ob hb.1 hb.2 q)
    refine ⟨.ref s.heap.objs.size, _, I1, rfl, ⟨_, x, rfl, I.hok.fresh (Nat.le_refl _), rfl, fun ys hy => by rw [I.tuple_inj hy hq]; exact hx⟩, ⟨⟨v, ?_⟩, hit'.1.at fun o q => (sb.2 it (Ne.symm hne)).trans q, hne, n1, n2⟩, fun b hb => ?_⟩
    · have e1 : ((i + 1 : Nat) : Int) = (i : Int) + 1 := by omega
      rw [e1]
      exact he'
    · have lb : b < s.heap.objs.size := by
        rw [List.mem_cons, List.mem_singleton] at hb
        rcases hb with z | z
        · rw [z]; exact le
        · rw [z]; exact li
      rw [upd_ne (Nat.ne_of_lt lb)]
      exact (hf b hb).1
  done := by
    intro X hP hw hK hc i pins s σ H E I hf st hg
    subst hP hw hK
    obtain ⟨⟨old, he⟩, hit, hne, n1, n2⟩ := st
    obtain ⟨xs, hq, hx⟩ := hg
    obtain ⟨its, rv, p, hz⟩ := I.tuple hq
    obtain ⟨f0, f1, f2, f3, f4, f5⟩ := hf it (List.mem_cons_of_mem _ List.mem_cons_self)
    have none_ : its.toArray[i]? = none := by
      have hl := rv.length
      simp
      omega
    have D : Draws X.prog X.w X.A.in1 it [it, t] 0 (fun _ _ => False) (fun _ h => h.IsTupleIter it t i ∧ h.IsTuple t its.toArray) :=
      { live := fun _ _ st => let ⟨o, ho, _⟩ := st.1; ⟨o, ho⟩
        frame := fun _ _ _ st hk => ⟨st.1.at fun o e => hk it List.mem_cons_self o e, st.2.at fun o e => hk t (List.mem_cons_of_mem _ List.mem_cons_self) o e⟩
        item := fun _ _ _ _ z => absurd z (Nat.not_lt_zero _)
        done := fun s Q E st hE => wpAny_nextOf_tuple_end (by simpa using I.ok.hd hc) st.1 st.2 none_ hE }
    exact wpAny_pyNext_enum_endD D he ⟨hit, p⟩ fun h' eb => ⟨rfl, I.turned (t' := s.toks) (fun b o hb q => eb b o hb q) f0 f1 f3 f4 f5⟩
  self := fun A i s Q E st h => by
    obtain ⟨⟨_, he⟩, _⟩ := st
    exact wpAny_pyIter_enum he h
def iEnumT (K : PySem.W.Frag) (ta : TA) : TI := fun σ H R => ta σ H fun vs H1 => ∃ a xs, vs = [.ref a] ∧ SqT K H1 a xs ∧ R (IteT K a) H1
theorem pi_enumT {X : Cx} {e : Expr} {ta : TA} {p pos tpos : Pos} {elts : List Expr} {kk : Nat} (hg : Gl X "enumerate") (hm : X.mg "enumerate" = none) (ha : PA X [e] ta) (hs : starEach [e] X.env = [(false, eval e X.env)] := by rfl) :
    PI X (.Tuple elts kk tpos) (.Call (.Name "enumerate" p) [e] [] pos) (iEnumT X.K ta) := by
  refine ⟨fun pins s σ H R I h => Call_ (ld_blt I hg hm boot_enumerate (PyProof.Rows.callWith_type1 (thn (ha.run pos pins s σ H _ I h) fun us s1 ⟨vs, H1, I1, r1, a, xs, ex, hq, q⟩ => ?_) hs rfl))⟩
  subst ex
  obtain rfl := Vals.ref1 r1
  obtain ⟨its, rv, pt, hz⟩ := I1.tuple hq
  have la : a < s1.heap.objs.size := by obtain ⟨o, ho, _⟩ := pt; exact Heap.lt_size ho
  refine call_enumT pt fun h' he hit hk => wpAny_pyIter_enum he ?_
  refine ⟨s1.heap.objs.size + 1, [s1.heap.objs.size + 1, s1.heap.objs.size], _, _, H1, rfl, I1.kept (t' := s1.toks) hk, turn_enumT a (s1.heap.objs.size + 1) s1.heap.objs.size its.toArray, ⟨⟨.none, he⟩, hit, Nat.succ_ne_self _, Nat.ne_of_lt la, Nat.ne_of_lt (Nat.lt_succ_of_lt la)⟩, fun b hb => ?_, q⟩
  have hle : s1.heap.objs.size ≤ b := by
    rw [List.mem_cons, List.mem_singleton] at hb
    rcases hb with z | z
    · exact z ▸ Nat.le_succ _
    · exact z ▸ Nat.le_refl _
  exact I1.fpOk hle (I1.hok.fresh hle)
end El

set_option Elab.async false
set_option linter.all false
set_option maxRecDepth 100000
set_option maxHeartbeats 4000000
/-! Own words: a list or a tuple walked; own classes made, read by [..] inside a try; own exceptions without arguments. -/
namespace El
open PySem PySem.Spec PyProof.Rows L2 NdefX
section
variable {X : Cx} {tg l : Expr} {tl : TE}
def iSeq (K : PySem.W.Frag) (tl : TE) : TI := fun σ H R => tl σ H fun x H1 => ∃ a xs, x = .ref a ∧ ((SqL K H1 a xs ∧ R (Itl K a) H1) ∨ (SqT K H1 a xs ∧ R (Itt K a) H1))
theorem pi_seq (hl : PE X l tl) : PI X tg l (iSeq X.K tl) := by
  refine ⟨fun pins s σ H R I h => thn (hl.run pins s σ H _ I h) fun v s1 ⟨x, H1, I1, r1, a, xs, ex, q⟩ => ?_⟩
  subst ex
  obtain rfl : v = Value.ref a := r1
  have new : ∀ b ∈ [s1.heap.objs.size], FpOk X pins H1 b := fun b hb => by
    rw [List.mem_singleton] at hb
    exact hb ▸ I1.fpOk (Nat.le_refl _) (I1.hok.fresh (Nat.le_refl _))
  rcases q with ⟨hq, q⟩ | ⟨hq, q⟩
  · obtain ⟨its, rv, p, _⟩ := I1.list hq
    exact wpAny_pyIter_list p.isList ⟨_, _, _, _, H1, rfl, I1.kept (t' := s1.toks) fun b o e => Heap.get?_push_of_some _ e, turn_list a _, ⟨_, Heap.get?_push_size _ rfl, rfl, rfl⟩, new, q⟩
  · obtain ⟨its, rv, p, _⟩ := I1.tuple hq
    exact wpAny_pyIter_tuple p ⟨_, _, _, _, H1, rfl, I1.kept (t' := s1.toks) fun b o e => Heap.get?_push_of_some _ e, turn_tuple a _, ⟨_, Heap.get?_push_size _ rfl, rfl, rfl⟩, new, q⟩
end
theorem pi_seqK {X : Cx} {tg l : Expr} {tl : TE} (K : PySem.W.Frag) (hl : PE X l tl) (h : X.K = K := by rfl) : PI X tg l (iSeq K tl) := h ▸ pi_seq hl
section
variable {X : Cx} {CX : CXT} {k : Nat} {C f : Addr} {fd : FuncData} {ps : List Str} {ds : List Value} {dvs : List V} {sp : Sp} {E : L2.St → XK} {x : Str} {p pos : Pos} {a b e : Expr} {es : List Expr} {ta tb : TE} {t : TA}
/-- C(e, ..), what its __init__ lets out being taken where it stands -/
def tMakeS (C : Addr) (sp : Sp) (E : L2.St → XK) (t : TA) : TE := fun σ H Q => t σ H fun vs H1 => ∀ x dx, H1 x = none → H1 dx = none → dx ≠ x → sp (.ref x :: vs) (upd (upd H1 dx (.own x)) x (.ins C dx [])) (fun v H2 => v = .non ∧ Q (.ref x) H2) (E σ)
theorem run_makeS {pins : List (Addr × Obj)} {σ : L2.St} {H : Hp} {s : Shared} {Q : VK} {us : List Value} {vs : List V} {E : XK} (M : Mk X.K C f) (F : FnOk X.prog X.w X.K X.mg X.base CX k f fd ps sp) (hr : Room (k + 1) X.A) (hb : Binds X.K fd ps [])
    (hx : PassesAt CX X σ E) (I : Inv X pins σ H s) (r : Vals vs us)
    (h : ∀ x dx, H x = none → H dx = none → dx ≠ x → sp (.ref x :: vs) (upd (upd H dx (.own x)) x (.ins C dx [])) (fun v H2 => v = .non ∧ Q (.ref x) H2) E) : wpAny (model X.prog X.w) X.A (call (.ref C) us) (EP X pins σ Q) X.xe s := by
  have fresh := fun n hn => I.hok.fresh (a := n) hn
  have q := h (s.heap.objs.size + 1) s.heap.objs.size (fresh _ (Nat.le_succ _)) (fresh _ (Nat.le_refl _)) (Nat.ne_of_lt (Nat.lt_succ_self _))
  have J := Inv.made (C := C) I
  have rr : Vals (V.ref (s.heap.objs.size + 1) :: vs) (Value.ref (s.heap.objs.size + 1) :: us) := .cons rfl r
  have hl : (Value.ref (s.heap.objs.size + 1) :: us ++ []).length = ps.length := by rw [List.append_nil, ← rr.length]; exact F.len _ _ _ _ q
  have bt := hb _ (Value.ref (s.heap.objs.size + 1) :: us) J.kIn hl
  rw [List.append_nil] at bt
  refine wpAny_call (make_map (f := f) I.kIn M.makes M.init (beq_iff_eq.mp M.fn) (codeAny_mono (F.run _ X.stack _ _ ⟨Value.ref (s.heap.objs.size + 1) :: us, []⟩ _ _ _ E (hr.make C us []) (J.env0.make C us []) bt rr q) fun r s' hs => ?_))
  match r, hs with
  | .error e, hs => exact hx pins _ _ e s' J hs
  | .ok (.ret u), hs =>
    obtain ⟨v, H', J', rv, ev, q'⟩ := J.after hs
    subst ev
    exact ⟨rv, V.ref (s.heap.objs.size + 1), H', J', rfl, q'⟩
  | .ok .next, hs => exact False.elim hs
  | .ok .brk, hs => exact False.elim hs
  | .ok .cont, hs => exact False.elim hs
theorem pe_makeS (M : Mk X.K C f) (F : FnOk X.prog X.w X.K X.mg X.base CX k f fd ps sp) (hr : Room (k + 1) X.A) (hg : Gl X x) (hm : X.mg x = some (.ref C)) (hb : Binds X.K fd ps []) (hx : ∀ σ, PassesAt CX X σ (E σ)) (ha : PA X (e :: es) t)
    (hdb : (x == ("__debug__" : Str)) = false := by decide) (he : starEach (e :: es) X.env = (false, eval e X.env) :: starEach es X.env := by rfl) (hpl : (backTo pos (starEach es X.env)).any (·.1) = false := by rfl) :
    PE X (.Call (.Name x p) (e :: es) [] pos) (tMakeS C sp E t) := by
  refine ⟨fun pins s σ H Q I h => wpAny_Call_Name_kw (ld_glob I hg hm ?_ hdb)⟩
  refine PySem.W.callWith_K (h₀ := X.base) I.ok.mod.kin M.kp (thn (ha.run pos pins s σ H _ I h) fun us s1 ⟨vs, H1, I1, r, q⟩ => ⟨I1.kIn, ?_⟩) he hpl
  exact run_makeS M F hr hb (hx σ) I1 r q
/-- an own class's `__getitem__`, as it is read by [..] -/
structure SubC (K : PySem.W.Frag) (C f : Addr) : Prop where
  at_ : PySem.W.findIn K (.ref C) "__getitem__" = some (some (.ref f))
  fn : PySem.W.isFn K (.ref f) = true
  fi : PySem.W.fnIn K f = true
/-- a[y], a of the class at C, what it lets out being taken where it stands -/
def tItS (C : Addr) (sp : Sp) (E : L2.St → XK) (ta tb : TE) : TE := fun σ H Q => ta σ H fun x H1 => tb σ H1 fun y H2 => ∃ a dx fs, x = .ref a ∧ H2 a = some (.ins C dx fs) ∧ sp [.ref a, y] H2 Q (E σ)
theorem pe_itS (c : SubC X.K C f) (F : FnOk X.prog X.w X.K X.mg X.base CX k f fd ps sp) (hr : Room (k + 1) X.A) (hb : Binds X.K fd ps []) (hx : ∀ σ, PassesAt CX X σ (E σ)) (ha : PE X a ta) (hb2 : PE X b tb)
    (hs : ∀ o i, subscripted b true o i = runValue (.builtin "lifetime.subscript" ⟨[o, i], []⟩) := by intro _ _; rfl) : PE X (.Subscript a b pos) (tItS C sp E ta tb) := by
  refine ⟨fun pins s σ H Q I h => Subscript_ (binT ha hb2 I (R := fun x y H2 => ∃ a dx fs, x = .ref a ∧ H2 a = some (.ins C dx fs) ∧ sp [.ref a, y] H2 Q (E σ)) h fun v u s2 x y H2 I2 rx ry q => ?_)⟩
  obtain ⟨a, dx, fs, rfl, ea, q⟩ := q
  obtain rfl : v = Value.ref a := rx
  obtain ⟨m, fr⟩ := I2.fr
  obtain ⟨mA, O, _⟩ := ins_get I2.hok ea
  obtain ⟨od, J, _⟩ := O.look
  refine PySem.W.sub_K fr I2.ok.mod.kin J c.at_ c.fi c.fn ?_ (hs _ _)
  have hl : ([Value.ref a, u] ++ []).length = ps.length := F.len _ _ _ _ q
  have bt := hb s2 [.ref a, u] I2.kIn hl
  rw [List.append_nil] at bt
  refine wpAny_call (codeAny_mono (F.run X.A.in1 X.stack s2 H2 ⟨[.ref a, u], []⟩ [.ref a, u] [.ref a, y] Q (E σ) hr.in1 I2.env0.in1 bt (.cons rfl (.cons ry .nil)) q) fun r s' hq => ?_)
  match r, hq with
  | .error e, hq => exact hx σ pins H2 s2 e s' I2 hq
  | .ok (.ret u), hq => exact I2.after hq
  | .ok .next, hq => exact False.elim hq
  | .ok .brk, hq => exact False.elim hq
  | .ok .cont, hq => exact False.elim hq
end
section
variable {X : Cx} {CX : CXT} {k : Nat} {C f : Addr} {fd : FuncData} {ps : List Str} {sp : Sp} {E : XK} {pos : Pos} {a b : Expr} {ta tb : TE}
theorem pe_itO (c : SubC X.K C f) (F : FnOk X.prog X.w X.K X.mg X.base CX k f fd ps sp) (hr : Room (k + 1) X.A) (hb : Binds X.K fd ps []) (hx : Passes CX X E) (ha : PE X a ta) (hb2 : PE X b tb)
    (hs : ∀ o i, subscripted b true o i = runValue (.builtin "lifetime.subscript" ⟨[o, i], []⟩) := by intro _ _; rfl) : PE X (.Subscript a b pos) (tItS C sp (fun _ => E) ta tb) :=
  pe_itS c F hr hb (fun σ pins H s e s' I h => hx pins σ H s e s' I h) ha hb2 hs
end
/-! ### an own exception made without arguments -/
section
variable {X : Cx} {p pos : Pos}
theorem pmk_oex0 {CX : CXT} {x : Str} {C fI : Addr} {k : Nat} {fd : FuncData} {ps : List Str} {sp : Sp} (T : OexC X.K C) (iC : PySem.W.findIn X.K (.ref C) "__init__" = some (some (.ref fI))) (tI : PySem.W.typeIn X.K (.ref fI) = some (.type "function"))
    (F1 : FnOk X.prog X.w X.K X.mg X.base CX k fI fd ps sp) (hr : Room (k + 1) X.A) (hb : Binds X.K fd ps []) (hx : Passes CX X (fun _ _ _ => False)) (hg : Gl X x) (hm : X.mg x = some (.ref C)) (hdb : (x == ("__debug__" : Str)) = false := by decide) :
    PMk X (.Call (.Name x p) [] [] pos) (tMkO C sp [] tNil) := by
  intro pins s σ H Q I h
  obtain ⟨nm, q, N, bs, bm, sn, sub, ab, col, dd, k0, k1, k2, k3, k5, hC, hbm⟩ := T.cls
  refine wpAny_Call_Name_kw (ld_glob I hg hm ?_ hdb)
  refine PySem.W.callWith_K0 I.kIn T.kC ?_
  obtain ⟨_, q1⟩ := h
  obtain ⟨hp, g, dr, tk, os⟩ := s
  have up : hp.objs.size ≤ hp.objs.size + 1 := Nat.le_succ _
  have hq := q1 (hp.objs.size + 1) (I.hok.fresh up)
  have stay : ∀ b o, hp.get? b = some o → ((hp.push (PySem.W.kdv_tup [])).push (PySem.HandSPX.excO C hp.objs.size)).get? b = some o := fun b o e => Heap.get?_push_of_some _ (Heap.get?_push_of_some _ e)
  have there : ((hp.push (PySem.W.kdv_tup [])).push (PySem.HandSPX.excO C hp.objs.size)).get? (hp.objs.size + 1) = some (PySem.HandSPX.excO C hp.objs.size) := by heap_get
  have I2 := I.laid (t' := tk) (a := hp.objs.size + 1) (o := exo (hp.objs.size + 1) C none) (h' := (hp.push (PySem.W.kdv_tup [])).push (PySem.HandSPX.excO C hp.objs.size)) stay up (exo_ok there)
  have hl : ([Value.ref (hp.objs.size + 1)] ++ []).length = ps.length := F1.len _ _ _ _ hq
  refine wpAny_call (PySem.HandSPX.call_own F.excBase_ValueError (fun Y => PySem.HandSPX.refsVE_contains Y bm hbm) (I.kIn _ _ hC) (PySem.W.looks_findIn I.kIn iC) (fun self => PySem.W.bind_fn I.kIn self tI) (Nat.zero_le _)
    (codeAny_mono (F1.run _ X.stack _ _ ⟨[Value.ref (hp.objs.size + 1)], []⟩ [Value.ref (hp.objs.size + 1)] _ _ (fun _ _ _ => False) (hr.make C [] []) (I2.env0.make C [] []) (hb _ [Value.ref (hp.objs.size + 1)] I2.kIn hl) (show Vals [V.ref (hp.objs.size + 1)] [Value.ref (hp.objs.size + 1)] from .cons rfl .nil) hq) fun r s' hs => ?_))
  match r, hs with
  | .error er, hs => exact hx pins σ _ _ er s' I2 hs
  | .ok (.ret u), hs =>
    obtain ⟨v, H2, os2, bare2, un2, hok2, rv, ev, d, fs, ea, ed, hd1, q2⟩ := hs
    subst ev
    obtain ⟨h2, g2, d2, t2, os'⟩ := s'
    exact ⟨rv, mk_end (raises_own T.exC T.tyC) I up stay un2 hok2 os2 bare2 ea ed hd1 q2⟩
  | .ok .next, hs => exact False.elim hs
  | .ok .brk, hs => exact False.elim hs
  | .ok .cont, hs => exact False.elim hs
end
/-! ### lists turned round, places of items -/
theorem mt_reverseL {X : Cx} : MtM X "list.reverse" (fun x vs H Q => ∃ l xs, x = .ref l ∧ vs = [] ∧ H l = some (.lst xs) ∧ Q .non (upd H l (.lst xs.reverse))) := by
  intro pins s σ H x vs v us Q I rx rv h
  obtain ⟨l, xs, rfl, rfl, hH, q⟩ := h
  obtain rfl : v = Value.ref l := rx
  obtain rfl := rv.zero
  obtain ⟨z, its, n, r, hl, e⟩ := I.lstM hH
  have few : its.length ≤ sizeLine := by rw [← r.length]; omega
  refine call_meets F.slot_list_reverse ⟨_, e, rfl⟩ F.entry_list_reverse (F.args_list_reverse_1 _) (AutoSeq1.list_reverse_list_0 l its.toArray n (by simpa using few)) ⟨e, ?_⟩
  exact ⟨.non, _, I.lset (its' := its.reverse) (ys := xs.reverse) hH e (by simp) r.reverse (by rw [List.length_reverse]; omega), rfl, q⟩
theorem mindexK {X : Cx} (K : PySem.W.Frag) (h : X.K = K := by rfl) : MtR X "list.index" (rIndex K) := h ▸ mt_index
theorem mtupK {X : Cx} (K : PySem.W.Frag) (h : X.K = K := by rfl) : MtR X "tuple.index" (fun x xs H Q => ∃ p, ∃ ys : List Str, ∃ z j, x = .ref p ∧ xs = [.str z] ∧ SqT K H p (ys.map V.str) ∧ ys[j]? = some z ∧ (∀ m, m < j → ys[m]? ≠ some z) ∧ Q (.int (j : Nat)) H) := h ▸ mt_tup_index
/-! ### defs of own classes, ready to be called -/
structure CalIn (P : Program) (w : World) (K : PySem.W.Frag) (mg : Str → Option Value) (base : Heap) (CX : CXT) (k : Nat) (C f : Addr) (fd : FuncData) (ps : List Str) (sp : Sp) : Prop extends CalB P w K mg base CX k f fd ps sp where
  ic : InC K C f
structure CalSub (P : Program) (w : World) (K : PySem.W.Frag) (mg : Str → Option Value) (base : Heap) (CX : CXT) (k : Nat) (C f : Addr) (fd : FuncData) (ps : List Str) (sp : Sp) : Prop extends CalB P w K mg base CX k f fd ps sp where
  su : SubC K C f
structure CalIt (P : Program) (w : World) (K : PySem.W.Frag) (mg : Str → Option Value) (base : Heap) (CX : CXT) (k : Nat) (C f : Addr) (sp : Nat → Sp) : Prop where
  F : FnS P w K mg base CX k f sp
  oi : OitC K C f
end El

set_option Elab.async false
set_option linter.all false
set_option maxRecDepth 100000
set_option maxHeartbeats 4000000
/-! Own words: an own exception whose __init__ takes nothing and keeps nothing. -/
namespace El
open PySem PySem.Spec PyProof.Rows L2 NdefX
/-- its __init__ -/
def spE0 (C : Addr) : Sp := fun vs H Q _ => ∃ a : Addr, vs = [.ref a] ∧ H a = some (exo a C none) ∧ Q .non H
/-- the end of C(): the exception is let go -/
theorem mk_none {X : Cx} {pins : List (Addr × Obj)} {σ : L2.St} {H1 : Hp} {Q : XK} {hp hp2 h2 : Heap} {g1 g2 : Array GenState} {d1 d2 : Drawn} {t1 t2 : Nat} {os1 os2 : OsState} {a C : Addr} (T : Raises X (.ref C)) (I1 : Inv X pins σ H1 ⟨hp, g1, d1, t1, os1⟩)
    (ha : hp.objs.size ≤ a) (k : ∀ b o, hp.get? b = some o → hp2.get? b = some o) (un : Un (frs X.stack) [] (upd H1 a (exo a C none)) (upd H1 a (exo a C none)) hp2 h2) (hok : HOk X.prog X.w (upd H1 a (exo a C none)) h2) (ho : os2 = os1) (hb : AllBare g2)
    (q : Q (.ref C) none H1) : MkP X pins σ Q (.ref a) ⟨h2, g2, d2, t2, os2⟩ := by
  have ea : (upd H1 a (exo a C none)) a = some (exo a C none) := upd_same
  obtain ⟨t0, hoe⟩ := exo_at hok ea
  have na : H1 a = none := I1.hok.fresh ha
  obtain ⟨G, g1', g2'⟩ := restrict h2 fun b => decide (b ≠ a)
  have gk : ∀ {b}, b ≠ a → G.get? b = h2.get? b := fun {b} z => g1' b (decide_eq_true z)
  have ge : G.get? a = none := g2' a (by simp)
  have old : ∀ {b : Addr} {o : Obj}, hp.get? b = some o → b ≠ a := fun {b o} z => Nat.ne_of_lt (Nat.lt_of_lt_of_le (Heap.lt_size z) ha)
  have up : ∀ {b : Addr}, b ≠ a → H1 b = none → upd H1 a (exo a C none) b = none := fun {b} z n => by rw [upd_ne z]; exact n
  have U : Un (frs X.stack) [] H1 H1 hp G :=
    { keep := fun b o z n hf hx => (gk (old z)).trans (un.keep b o (k b o z) (up (old z) n) hf hx)
      slot := fun b o z n hf hx => by
        rw [gk (old z)]
        exact un.slot b o (k b o z) (up (old z) n) hf hx
      free := fun b o z n hx => n
      there := fun b o z hx => by
        rw [gk (old z)]
        exact un.there b o (k b o z) hx
      tups := fun b xs z => z
      frzs := fun b o v z => z
      tbls := fun b ps z => ⟨#[], by rw [Array.append_empty]; exact z⟩ }
  have own_ne : ∀ {b c : Addr}, upd H1 a (exo a C none) c = some (.own b) → c ≠ a := fun {b c} z => at_ne ea z exo_own
  have hok3 : HOk X.prog X.w H1 G := fun b o z => by
    have hba : b ≠ a := fun e => by rw [e, na] at z; cases z
    refine (hok b o (by rw [upd_ne hba]; exact z)).stay (fun c v hc y => ?_) (fun c hc => ?_) (fun c xs hc => ?_)
    · have hca : c ≠ a := hc.elim (fun e => e ▸ hba) fun e => own_ne e
      exact (gk hca).trans y
    · have := own_ne hc
      rwa [upd_ne this] at hc
    · have := at_ne ea hc exo_tup
      rwa [upd_ne this] at hc
  have J : Inv X pins σ H1 ⟨G, g2, d2, t2, os2⟩ := I1.call' (ch := []) ho U hok3 hb (fun b z => absurd z (by simp))
  refine ⟨a, _, _, ⟨G, g2, d2, t2, os2⟩, _, .ref C, none, rfl, J, fun b o z => ?_, ge, hoe, ⟨rfl, rfl⟩, rfl, rfl, na, rfl, hb, T, q⟩
  by_cases hba : b = a
  · rw [hba, ge] at z
    cases z
  · exact (gk hba).symm.trans z
section
variable {X : Cx} {p pos : Pos}
theorem pmk_none {CX : CXT} {x : Str} {C fI : Addr} {k : Nat} {fd : FuncData} {ps : List Str} (T : OexC X.K C) (iC : PySem.W.findIn X.K (.ref C) "__init__" = some (some (.ref fI))) (tI : PySem.W.typeIn X.K (.ref fI) = some (.type "function"))
    (F1 : FnOk X.prog X.w X.K X.mg X.base CX k fI fd ps (spE0 C)) (hr : Room (k + 1) X.A) (hb : Binds X.K fd ps []) (hx : Passes CX X (fun _ _ _ => False)) (hg : Gl X x) (hm : X.mg x = some (.ref C)) (hdb : (x == ("__debug__" : Str)) = false := by decide) :
    PMk X (.Call (.Name x p) [] [] pos) (fun _ H Q => Q (.ref C) none H) := by
  intro pins s σ H Q I h
  obtain ⟨nm, q, N, bs, bm, sn, sub, ab, col, dd, k0, k1, k2, k3, k5, hC, hbm⟩ := T.cls
  refine wpAny_Call_Name_kw (ld_glob I hg hm (PySem.W.callWith_K0 I.kIn T.kC ?_) hdb)
  obtain ⟨hp, g, dr, tk, os⟩ := s
  have up : hp.objs.size ≤ hp.objs.size + 1 := Nat.le_succ _
  have hq : spE0 C [V.ref (hp.objs.size + 1)] (upd H (hp.objs.size + 1) (exo (hp.objs.size + 1) C none)) (fun v H2 => v = .non ∧ H2 = upd H (hp.objs.size + 1) (exo (hp.objs.size + 1) C none)) (fun _ _ _ => False) := ⟨_, rfl, upd_same, rfl, rfl⟩
  have stay : ∀ b o, hp.get? b = some o → ((hp.push (PySem.W.kdv_tup [])).push (PySem.HandSPX.excO C hp.objs.size)).get? b = some o := fun b o e => Heap.get?_push_of_some _ (Heap.get?_push_of_some _ e)
  have there : ((hp.push (PySem.W.kdv_tup [])).push (PySem.HandSPX.excO C hp.objs.size)).get? (hp.objs.size + 1) = some (PySem.HandSPX.excO C hp.objs.size) := by heap_get
  have I2 := I.laid (t' := tk) (a := hp.objs.size + 1) (o := exo (hp.objs.size + 1) C none) (h' := (hp.push (PySem.W.kdv_tup [])).push (PySem.HandSPX.excO C hp.objs.size)) stay up (exo_ok there)
  have hl : ([Value.ref (hp.objs.size + 1)] ++ []).length = ps.length := F1.len _ _ _ _ hq
  refine wpAny_call (PySem.HandSPX.call_own F.excBase_ValueError (fun Y => PySem.HandSPX.refsVE_contains Y bm hbm) (I.kIn _ _ hC) (PySem.W.looks_findIn I.kIn iC) (fun self => PySem.W.bind_fn I.kIn self tI) (Nat.zero_le _)
    (codeAny_mono (F1.run _ X.stack _ _ ⟨[Value.ref (hp.objs.size + 1)], []⟩ [Value.ref (hp.objs.size + 1)] _ _ (fun _ _ _ => False) (hr.make C [] []) (I2.env0.make C [] []) (hb _ [Value.ref (hp.objs.size + 1)] I2.kIn hl) (show Vals [V.ref (hp.objs.size + 1)] [Value.ref (hp.objs.size + 1)] from .cons rfl .nil) hq) fun r s' hs => ?_))
  match r, hs with
  | .error er, hs => exact hx pins σ _ _ er s' I2 hs
  | .ok (.ret u), hs =>
    obtain ⟨v, H2, os2, bare2, un2, hok2, rv, ev, eH⟩ := hs
    subst ev eH
    obtain ⟨h2, g2, d2, t2, os'⟩ := s'
    exact ⟨rv, mk_none (raises_own T.exC T.tyC) I up stay un2 hok2 os2 bare2 h⟩
  | .ok .next, hs => exact False.elim hs
  | .ok .brk, hs => exact False.elim hs
  | .ok .cont, hs => exact False.elim hs
end
/-- the class, its __init__, ready for a raise -/
structure CalE0 (P : Program) (w : World) (K : PySem.W.Frag) (mg : Str → Option Value) (base : Heap) (k : Nat) (x : Str) (C f : Addr) (fd : FuncData) (ps : List Str) : Prop where
  G : FnOk P w K mg base CX0 k f fd ps (spE0 C)
  b : Binds K fd ps []
  X : ExK K C f []
  m : mg x = some (.ref C)
/-- isinstance(e, c), e the exception that the suite holds, without a dict -/
theorem call_isN {X : Cx} {a : Addr} {oe : Obj} {cls : Value} {d : Option Addr} {pn : List (Addr × Obj)} (hz : Zc cls d oe) (hf : ∃ vs, oe.data = .fields vs) : CallR (X.suite a ((a, oe) :: pn)) (.builtin "isinstance") (fun xs H Q => rIsX X.K cls d a xs H Q ∨ ∃ (D : Addr) (c : V) (cv : Value) (b : Bool), xs = [.ref a, c] ∧ cls = .ref D ∧ d = none ∧ ExcC X.K D ∧ (∀ u, RelV c u → u = cv) ∧ PySem.W.kitOne X.K (.ref D) cv = some b ∧ Q (.bl b) H) := by
  intro pins s σ H xs us Q I r h
  rcases h with h | ⟨D, c, cv, b, rfl, rfl, rfl, C, hcv, e, q⟩
  · exact call_isX hz hf pins s σ H xs us Q I r h
  cases r with
  | cons rx rr =>
    cases rr with
    | cons rt rr =>
      cases rr
      cases rx
      have ec := hcv _ rt
      subst ec
      obtain ⟨hget, _⟩ := I.pin (a, oe) (List.mem_append.mpr (.inl List.mem_cons_self))
      obtain ⟨vs, hv⟩ := hf
      have J : PySem.W.InstAt s.heap a oe D none := ⟨hget, hz.1, by unfold PySem.W.notCls; rw [hv] <;> rfl, by rw [hz.2]; exact trivial⟩
      obtain ⟨cdD, hcD, _⟩ := PySem.W.any_some C.hd
      exact PySem.W.kia_one (PySem.W.kitx_exc (by rw [hcD]; rfl) C.hg C.hk C.hs C.ha C.hn C.ht C.hm) I.kIn J e (fun z => nomatch z) fun tk => ⟨.bl b, H, I.kept (t' := tk) fun _ _ z => z, rfl, q⟩
end El

set_option Elab.async false
set_option linter.all false
set_option maxRecDepth 100000
set_option maxHeartbeats 4000000
/-! Own words: comprehensions with two clauses, walk in walk. -/
namespace El
open PySem PySem.Spec PyProof.Rows L2
/-- the second clause's loop, from which Nx is reached -/
def Inner2 (J1 : It) (g1 : TG) (tt1 : TT) (te : TE) (σ2 : L2.St) (vs1 : List Nat) (D : Addr) (Nx : Hp → Prop) (H4 : Hp) : Prop :=
  ∃ W1 : Nat → Nat → Hp → Prop, (∃ m, W1 0 m H4) ∧ ∀ j k H, W1 j k H → (J1.stop j H ∧ Nx H) ∨ (J1.go j H ∧ ∃ Nx1 : Hp → Prop, (∀ H', Nx1 H' → ∃ k', k' < k ∧ W1 (j + 1) k' H') ∧ ∀ x H', J1.yld j H x H' → g1 x (wipe σ2 vs1) H' fun σ3 H5 => wipe σ3 vs1 = wipe σ2 vs1 ∧ tt1 σ3 H5 fun b H6 =>
    if b = true then te σ3 H6 fun y H7 => ∃ acc, H7 D = some (.lst acc) ∧ acc.length < sizeLine ∧ Nx1 (upd H7 D (.lst (acc ++ [y]))) else Nx1 H6)
theorem inner2_it {J1 : It} {n : Nat} {G : Hp → Prop} {Y : Nat → Hp → V → Hp → Prop} (w : Walk J1 n G Y) {g1 : TG} {tt1 : TT} {te : TE} {σ2 : L2.St} {vs1 : List Nat} {D : Addr} {Nx : Hp → Prop} {H4 : Hp} (Pv : Nat → Hp → Prop) (h0 : Pv 0 H4) (hG : ∀ j H, j ≤ n → Pv j H → G H)
    (hs : ∀ j x H H', j < n → Pv j H → Y j H x H' → g1 x (wipe σ2 vs1) H' fun σ3 H5 => wipe σ3 vs1 = wipe σ2 vs1 ∧ tt1 σ3 H5 fun b H6 =>
      if b = true then te σ3 H6 fun y H7 => ∃ acc, H7 D = some (.lst acc) ∧ acc.length < sizeLine ∧ Pv (j + 1) (upd H7 D (.lst (acc ++ [y]))) else Pv (j + 1) H6)
    (hd : ∀ H, Pv n H → Nx H) : Inner2 J1 g1 tt1 te σ2 vs1 D Nx H4 := by
  refine ⟨fun j k H => k = n - j ∧ j ≤ n ∧ Pv j H, ⟨n, by simp, Nat.zero_le _, h0⟩, ?_⟩
  rintro j k H ⟨rfl, hj, p⟩
  have q := hG j H hj p
  by_cases e : j < n
  · exact .inr ⟨w.goes j H e q, Pv (j + 1), fun H' p' => ⟨n - (j + 1), by omega, rfl, e, p'⟩, fun x H' y => hs j x H H' e p (w.yields j H x H' e q y)⟩
  · obtain rfl : j = n := by omega
    exact .inl ⟨w.stops H q, hd H p⟩
theorem lc2_it {J : It} {n : Nat} {G : Hp → Prop} {Y : Nat → Hp → V → Hp → Prop} (w : Walk J n G Y) {g : TG} {tt : TT} {wi1 : TI} {g1 : TG} {tt1 : TT} {te : TE} {vs vs1 : List Nat} {σ : L2.St} {H1 : Hp} {D : Addr} {Qd : Hp → Prop} (Pv : Nat → Hp → Prop) (h0 : Pv 0 (upd H1 D (.lst []))) (hG : ∀ i H, i ≤ n → Pv i H → G H)
    (hs : ∀ i x H H', i < n → Pv i H → Y i H x H' → g x (wipe σ vs) H' fun σ2 H2 => wipe σ2 vs = wipe σ vs ∧ tt σ2 H2 fun b H3 =>
      if b = true then wi1 σ2 H3 fun J1 H4 => Inner2 J1 g1 tt1 te σ2 vs1 D (Pv (i + 1)) H4 else Pv (i + 1) H3)
    (hd : ∀ H, Pv n H → Qd H) :
    ∃ W : Nat → Nat → Hp → Prop, (∃ m, W 0 m (upd H1 D (.lst []))) ∧ ∀ i m H, W i m H →
      (J.stop i H ∧ Qd H) ∨ (J.go i H ∧ ∃ Nx : Hp → Prop, (∀ H', Nx H' → ∃ m', m' < m ∧ W (i + 1) m' H') ∧ ∀ x H', J.yld i H x H' → g x (wipe σ vs) H' fun σ2 H2 => wipe σ2 vs = wipe σ vs ∧ tt σ2 H2 fun b H3 =>
        if b = true then wi1 σ2 H3 fun J1 H4 => Inner2 J1 g1 tt1 te σ2 vs1 D Nx H4 else Nx H3) := by
  refine ⟨fun i m H => m = n - i ∧ i ≤ n ∧ Pv i H, ⟨n, by simp, Nat.zero_le _, h0⟩, ?_⟩
  rintro i m H ⟨rfl, hi, p⟩
  have q := hG i H hi p
  by_cases e : i < n
  · exact .inr ⟨w.goes i H e q, Pv (i + 1), fun H' p' => ⟨n - (i + 1), by omega, rfl, e, p'⟩, fun x H' y => hs i x H H' e p (w.yields i H x H' e q y)⟩
  · obtain rfl : i = n := by omega
    exact .inl ⟨w.stops H q, hd H p⟩
/-- tuple(p), p a list or a tuple: a tuple of the same items stands behind it -/
theorem tupS {X : Cx} : CallR X (.type "tuple") (fun xs H Q => ∃ p ys, xs = [.ref p] ∧ (H p = some (.lst ys) ∨ H p = some (.tup ys)) ∧ ∀ H1 t, (∀ b o, H b = some o → H1 b = some o) → H1 t = some (.tup ys) → Q (.ref t) H1) := cwk call_tuple_of fun xs H Q q => by
  obtain ⟨p, ys, rfl, hp, q⟩ := q
  rcases hp with hp | hp
  · refine ⟨p, ys, rfl, .inl ⟨SqL.of hp, fun l nl => q _ l (fun b o hb => ?_) upd_same⟩⟩
    rw [upd_ne (fun e => by rw [e, nl] at hb; cases hb)]
    exact hb
  · exact ⟨p, ys, rfl, .inr ⟨SqT.of hp, q H p (fun _ _ h => h) hp⟩⟩
end El

set_option Elab.async false
set_option linter.all false
set_option maxRecDepth 100000
set_option maxHeartbeats 4000000
/-! Own words: len(set(t)) of a tuple of tuples of texts. -/
namespace El
open PySem PySem.Spec PyProof.Rows L2

/-! ### the way of a search, said of places alone -/
abbrev stt (t : SetTable) (h : Int) (c : Nat) : SetTable.Probe := nth t.mask (runAt t.mask (SetTable.bits h % (t.mask + 1)) (SetTable.bits h)) c
theorem stt_on (t : SetTable) (h : Int) (c q : Nat) : nth t.mask (stt t h c) q = stt t h (c + q) := (nth_add t.mask c _ q).symm
theorem adv_clean {m : Nat} {p : SetTable.Probe} (h : p.dummy = none) : (adv m p).dummy = none := by
  unfold adv
  split
  · exact h
  · exact h
theorem nth_clean (m : Nat) : ∀ (n : Nat) (p : SetTable.Probe), p.dummy = none → (nth m p n).dummy = none
  | 0, _, h => h
  | n + 1, p, h => nth_clean m n (adv m p) (adv_clean h)
theorem probe_at {t : SetTable} {rows : List Int} (T : TabOk t rows) (at_ : Nat → Int) (h : Int) {K c : Nat} (kf : K < 10 * SetTable.turns t.mask) (kn : way t.mask h K ∉ t.place.toList) (kb : ∀ q, q < K → way t.mask h q ∈ t.place.toList) (hc : c ≤ K) :
    (∃ q i, c ≤ q ∧ q < K ∧ t.place.toList[i]? = some (way t.mask h q) ∧ at_ i = h ∧ (∀ q' i', c ≤ q' → q' < q → t.place.toList[i']? = some (way t.mask h q') → at_ i' ≠ h) ∧ t.probe at_ h (stt t h c) = some (.candidate (way t.mask h q) i (stt t h (q + 1)))) ∨
    ((∀ q' i', c ≤ q' → q' < K → t.place.toList[i']? = some (way t.mask h q') → at_ i' ≠ h) ∧ t.probe at_ h (stt t h c) = some (.empty (way t.mask h K) none)) := by
  have mv : ∀ q, (nth t.mask (stt t h c) q).j = way t.mask h (c + q) := fun q => congrArg SetTable.Probe.j (stt_on t h c q)
  have back : ∀ q', c ≤ q' → way t.mask h q' = (nth t.mask (stt t h c) (q' - c)).j := fun q' hq => by
    rw [mv]
    exact congrArg (way t.mask h) (by omega)
  rcases go_spec t T.ris T.dm at_ h (10 * SetTable.turns t.mask) (K - c) (stt t h c) (nth_clean _ _ _ rfl) (by omega) (fun q hq => by rw [mv]; exact kb _ (by omega)) (by rw [← back K hc]; exact kn) with ⟨q, i, l, e1, e2, free, e3⟩ | ⟨free, e3⟩
  · refine .inl ⟨c + q, i, Nat.le_add_right _ _, by omega, by rw [← mv]; exact e1, e2, fun q' i' a b d => free (q' - c) i' (by omega) (by rw [← back q' a]; exact d), ?_⟩
    rw [mv, stt_on] at e3
    exact e3
  · refine .inr ⟨fun q' i' a b d => free (q' - c) i' (by omega) (by rw [← back q' a]; exact d), ?_⟩
    rw [← back K hc] at e3
    exact e3

section
variable {P : Program} {w : World} {A : Around} {E : Value → Shared → Prop} {s : Shared}
/-- the tuple at b holds the texts k -/
abbrev Tk (P : Program) (w : World) (h : Heap) (k : List Str) (b : Addr) : Prop := IsTupleKey (PySem.strKind P w) h k b
abbrev hs (P : Program) (w : World) (k : List Str) : Int := tupleKeyHash (PySem.strKind P w) k
def Txs (vs : List Value) : Prop := ∀ v ∈ vs, ∃ x t, v = Value.str x t
theorem Txs.of {k : List Str} {vs : List Value} (h : ItemsAre (PySem.strKind P w) k vs) : Txs vs := by
  induction h with
  | nil => exact fun _ z => nomatch z
  | cons one _ more =>
    intro v hv
    cases hv with
    | head => obtain ⟨t, e⟩ := Value.isStrOf_shape one; exact ⟨_, t, e⟩
    | tail _ hv => exact more v hv
theorem Txs.tl {v : Value} {vs : List Value} (h : Txs (v :: vs)) : Txs vs := fun u hu => h u (List.mem_cons_of_mem _ hu)
theorem class_tx (n : Nat) (x : Str) (t : Tok) : ofAClassStatement n (.str x t) = pure false := by cases n <;> rfl
theorem byval_tx (n : Nat) (x : Str) (t : Tok) : hashByValue n (.str x t) = pure false := by cases n <;> simp [hashByValue]
theorem class_tk {k : List Str} {b : Addr} {Q : Bool → Shared → Prop} (hk : Tk P w s.heap k b) (q : Q false s) : wpAny (model P w) A (ofAClassStatement 8 (.ref b)) Q E s := by
  have ty := hk.typeIs
  obtain ⟨ob, its, c, e1, _, e2, e3⟩ := hk
  have tx := Txs.of e3
  unfold ofAClassStatement
  refine wpAny_bind (wpAny_typeOf ty ?_)
  have same : (("tuple" : String) == "tuple") = true := by decide
  simp only [same, if_true, Bool.not_true, Bool.false_eq_true, if_false]
  try refine wpAny_bind (wpAny_pure ?_)
  try simp only [Bool.not_true, Bool.false_eq_true, if_false]
  refine wpAny_bind (m := seqItems? (.ref b)) (wpAny_seqItems e1 e2 ?_)
  refine wpAny_bind ?_
  show wpAny _ _ (forIn its _ _) _ _ s
  rw [← Array.forIn_toList]
  refine wpAny_forIn_list _ (fun left st s1 => Txs left ∧ st.1 = none ∧ s1 = s) _ (fun v left st s1 => ?_) (fun st s1 => ?_) _ _ ⟨tx, rfl, rfl⟩
  · rintro ⟨tx, e, rfl⟩
    obtain ⟨x, t, rfl⟩ := tx v List.mem_cons_self
    rw [class_tx]
    refine wpAny_bind (wpAny_pure ?_)
    simp only [Bool.false_eq_true, if_false]
    exact wpAny_pure ⟨tx.tl, rfl, rfl⟩
  · obtain ⟨u1, u2⟩ := st
    rintro ⟨_, e, rfl⟩
    cases (show u1 = none from e)
    exact wpAny_pure q
theorem byval_tk {k : List Str} {b : Addr} {Q : Bool → Shared → Prop} (hk : Tk P w s.heap k b) (q : ∀ c, Q c s) : wpAny (model P w) A (hashByValue 8 (.ref b)) Q E s := by
  have ty := hk.typeIs
  obtain ⟨ob, its, c, e1, _, e2, e3⟩ := hk
  have tx := Txs.of e3
  unfold hashByValue
  refine wpAny_bind (wpAny_specialOf ty PySem.F.slot_tuple_hash.lookup ?_)
  refine wpAny_bind (m := seqItems? (.ref b)) (wpAny_seqItems e1 e2 ?_)
  refine wpAny_bind ?_
  show wpAny _ _ (forIn its _ _) _ _ s
  rw [← Array.forIn_toList]
  refine wpAny_forIn_list _ (fun left st s1 => Txs left ∧ s1 = s) _ (fun v left st s1 => ?_) (fun st s1 => ?_) _ _ ⟨tx, rfl⟩
  · rintro ⟨tx, rfl⟩
    obtain ⟨x, t, rfl⟩ := tx v List.mem_cons_self
    rw [byval_tx]
    refine wpAny_bind (wpAny_pure ?_)
    simp only [Bool.not_false, if_true]
    exact wpAny_pure (wpAny_pure (q _))
  · obtain ⟨u1, u2⟩ := st
    rintro ⟨_, rfl⟩
    cases u1 with
    | none => exact wpAny_pure (q _)
    | some c => exact wpAny_pure (q _)
def Tks (P : Program) (w : World) (h : Heap) (vs : List Value) : Prop := ∀ v ∈ vs, ∃ k b, v = Value.ref b ∧ Tk P w h k b
theorem seen_tk {k : List Str} {b : Addr} {Q : Bool → Shared → Prop} (hk : Tk P w s.heap k b) {vs : List Value} (hv : Tks P w s.heap vs) (q : Q false s) : wpAny (model P w) A (searchCouldBeSeen (.ref b) vs) Q E s := by
  unfold searchCouldBeSeen
  refine wpAny_bind (wpAny_forIn_list _ (fun left st s1 => Tks P w s.heap left ∧ st.1 = none ∧ s1 = s) _ (fun v left st s1 => ?_) (fun st s1 => ?_) _ _ ⟨hv, rfl, rfl⟩)
  · rintro ⟨hv, e, rfl⟩
    obtain ⟨k2, c, rfl, hc⟩ := hv v List.mem_cons_self
    have fin : Tks P w s1.heap left ∧ (none : Option Bool) = none ∧ s1 = s1 := ⟨fun u hu => hv u (List.mem_cons_of_mem _ hu), rfl, rfl⟩
    dsimp only
    by_cases z : (b == c || (carriedByValue (.ref b) && carriedByValue (.ref c))) = true
    · exact wp_if_pos z (wpAny_pure fin)
    · refine wp_if_neg z (wpAny_bind (wpAny_eqIsQuiet_tuple hk ?_))
      simp only [Bool.not_true, Bool.false_eq_true, if_false]
      refine wpAny_bind (wpAny_eqIsQuiet_tuple hc ?_)
      simp only [Bool.not_true, Bool.false_eq_true, if_false]
      refine wpAny_bind (class_tk hk ?_)
      simp only [Bool.false_eq_true, if_false]
      refine wpAny_bind (class_tk hc ?_)
      simp only [Bool.false_eq_true, if_false]
      exact wpAny_pure fin
  · obtain ⟨u1, u2⟩ := st
    rintro ⟨_, e, rfl⟩
    cases (show u1 = none from e)
    exact wpAny_pure q

/-! ### a set of tuples of texts -/
def row (P : Program) (w : World) (p : Addr × List Str) : Int × Value := (hs P w p.2, Value.ref p.1)
structure Bag (P : Program) (w : World) (h : Heap) (a : Addr) (L : List (Addr × List Str)) (es : Array (Int × Value)) (ep : Nat) (t : SetTable) : Prop where
  ob : ∃ o, h.get? a = some o ∧ o.ExactSet ∧ o.data = .set es ep t
  rows : es.toList = L.map (row P w)
  tab : TabOk t (L.map fun p => hs P w p.2)
  led : w.params.followText "set-order" = true ∨ t.led = true
  room : L.length * 5 < t.mask * 3
  few : L.length < 64
  tk : ∀ p ∈ L, Tk P w h p.2 p.1
  nd : (L.map (·.2)).Nodup
variable {a : Addr} {L : List (Addr × List Str)} {es : Array (Int × Value)} {ep : Nat} {t : SetTable}
theorem size_rows (e : es.toList = L.map (row P w)) : es.size = L.length := by
  rw [← Array.length_toList, e, List.length_map]
theorem fits_of (e : es.toList = L.map (row P w)) (z : t.place.size = L.length) (d : t.dummies = #[]) (l : L.length ≤ t.mask) : t.fits es.size = true := by
  unfold SetTable.fits SetTable.fill
  rw [d, size_rows e, z, Bool.and_eq_true, beq_iff_eq, decide_eq_true_eq]
  exact ⟨rfl, l⟩
theorem Bag.szp (B : Bag P w s.heap a L es ep t) : t.place.size = L.length := by rw [B.tab.sz, List.length_map]
theorem Bag.lem (B : Bag P w s.heap a L es ep t) : L.length ≤ t.mask := by have := B.room; omega
theorem Bag.fits (B : Bag P w s.heap a L es ep t) : t.fits es.size = true := fits_of B.rows B.szp B.tab.dm B.lem
theorem row_at (e : es.toList = L.map (row P w)) {i : Nat} {p : Addr × List Str} (h : L[i]? = some p) : es[i]? = some (row P w p) := by
  rw [← Array.getElem?_toList, e, List.getElem?_map, h]
  rfl
/-- the search for k from step c of its way on -/
theorem seek (B : Bag P w s.heap a L es ep t) {x : Addr} {k : List Str} (hx : Tk P w s.heap k x) (hu : A.units < cLine) {K : Nat} (kf : K < 10 * SetTable.turns t.mask) (kn : way t.mask (hs P w k) K ∉ t.place.toList) (kb : ∀ q, q < K → way t.mask (hs P w k) q ∈ t.place.toList)
    {Q : SetFound → Shared → Prop} (yes : k ∈ L.map (·.2) → Q (.there none) s) (no : k ∉ L.map (·.2) → Q (.free (way t.mask (hs P w k) K) false) s) :
    ∀ (f c : Nat) (from_ : Option SetTable.Probe), from_.getD (t.probeStart (hs P w k)) = stt t (hs P w k) c → c ≤ K → K - c < f →
      (∀ (i : Nat) (p : Addr × List Str), L[i]? = some p → p.2 = k → ∃ q, c ≤ q ∧ q < K ∧ t.place.toList[i]? = some (way t.mask (hs P w k) q)) → wpAny (model P w) A (setSearchFrom a (.ref x) (hs P w k) true f from_) Q E s := by
  intro f
  induction f with
  | zero => exact fun c _ _ _ h => absurd h (Nat.not_lt_zero _)
  | succ f ih =>
    intro c from_ ef hc hf ahead
    obtain ⟨o, e1, e2, e3⟩ := B.ob
    have ld : ∀ {R : Array (Int × Value) × Nat × SetTable → Shared → Prop}, R (es, ep, t) s → wpAny (model P w) A (setState a) R E s := fun r => wpAny_setState_of e1 e3 B.fits r
    rw [setSearchFrom_succ]
    refine wpAny_bind (ld ?_)
    dsimp only
    refine wp_if_neg (by unfold SetTable.gaveWay; rw [mask_odd B.tab.mok]; decide) ?_
    try refine wpAny_bind (wpAny_pure ?_)
    have hat : ∀ (i : Nat) (p : Addr × List Str), L[i]? = some p → (fun i : Nat => (es[i]?.map (·.1)).getD 0) i = hs P w p.2 := fun i p hp => by
      show (es[i]?.map (·.1)).getD 0 = _
      rw [row_at B.rows hp]
      rfl
    rw [ef]
    rcases probe_at B.tab (fun i : Nat => (es[i]?.map (·.1)).getD 0) (hs P w k) kf kn kb hc with ⟨q, i, l1, l2, hi, hh, clear, pr⟩ | ⟨clear, pr⟩
    · rw [pr]
      dsimp only
      have il : i < L.length := by
        have h1 := (List.getElem?_eq_some_iff.mp hi).1
        rw [Array.length_toList, B.szp] at h1
        exact h1
      obtain ⟨p, hp⟩ : ∃ p, L[i]? = some p := ⟨_, List.getElem?_eq_getElem il⟩
      have pm := List.mem_of_getElem? hp
      have go : wpAny (model P w) A (searchRest a (.ref x) (hs P w k) true f es t (way t.mask (hs P w k) q) i (stt t (hs P w k) (q + 1))) Q E s := by
        unfold searchRest
        rw [row_at B.rows hp]
        dsimp only [row]
        refine wpAny_bind (wpAny_holding (wpAny_eqBool_tuple hu (B.tk p pm) hx (wpAny_bind (ld ?_))))
        dsimp only
        by_cases hk : p.2 = k
        · exact wp_if_pos (by simp [hk]) (wpAny_pure (yes (List.mem_map.mpr ⟨p, pm, hk⟩)))
        refine wp_if_neg (by simp [hk]) ?_
        try refine wpAny_bind (wpAny_pure ?_)
        rw [sameMem]
        have live : t.slot (way t.mask (hs P w k) q) = .live i := slot_live B.tab.ris hi
        simp only [if_true, live, row_at B.rows hp, row]
        refine wpAny_bind (wpAny_isSame_ref_self (wpAny_bind (wpAny_pure ?_)))
        simp only [if_true]
        refine wp_if_neg (by simp [hk]) (ih (q + 1) _ rfl l2 (by omega) fun i0 p0 h0 k0 => ?_)
        obtain ⟨q0, a1, a2, a3⟩ := ahead i0 p0 h0 k0
        refine ⟨q0, Nat.lt_of_le_of_ne (Nat.le_of_not_lt fun z => clear q0 i0 a1 z a3 ((hat i0 p0 h0).trans (congrArg (hs P w) k0))) fun z => hk ?_, a2, a3⟩
        have s0 := slot_live B.tab.ris a3
        rw [← z, live] at s0
        cases s0
        cases hp.symm.trans h0
        exact k0
      by_cases hl : t.led = true
      · refine wp_if_neg (by simp [hl]) ?_
        try refine wpAny_bind (wpAny_pure ?_)
        exact go
      · refine wp_if_pos (by simp [hl]) (wpAny_bind (seen_tk hx (fun v hv => ?_) ?_))
        · obtain ⟨r, hr, rfl⟩ := List.mem_map.mp hv
          have hr : r ∈ es := (by simpa using hr : r ∈ es ∧ r.1 = hs P w k).1
          have hr : r ∈ es.toList := by simpa using hr
          rw [B.rows] at hr
          obtain ⟨p2, m2, rfl⟩ := List.mem_map.mp hr
          exact ⟨p2.2, p2.1, rfl, B.tk p2 m2⟩
        · refine wp_if_neg (by decide) ?_
          try refine wpAny_bind (wpAny_pure ?_)
          exact go
    · rw [pr]
      refine wpAny_pure (no fun hm => ?_)
      obtain ⟨p0, m0, k0⟩ := List.mem_map.mp hm
      obtain ⟨i0, l0, h0⟩ := List.getElem_of_mem m0
      have h0 : L[i0]? = some p0 := by rw [List.getElem?_eq_getElem l0, h0]
      obtain ⟨q0, a1, a2, a3⟩ := ahead i0 p0 h0 k0
      exact clear q0 i0 a1 a2 a3 ((hat i0 p0 h0).trans (congrArg (hs P w) k0))
theorem sought (B : Bag P w s.heap a L es ep t) {x : Addr} {k : List Str} (hx : Tk P w s.heap k x) (hu : A.units < cLine) {Q : SetFound → Shared → Prop} (yes : k ∈ L.map (·.2) → Q (.there none) s)
    (no : ∀ K, k ∉ L.map (·.2) → way t.mask (hs P w k) K ∉ t.place.toList → (∀ q, q < K → way t.mask (hs P w k) q ∈ t.place.toList) → Q (.free (way t.mask (hs P w k) K) false) s) :
    wpAny (model P w) A (setSearch a (.ref x) (hs P w k) true) Q E s := by
  obtain ⟨K, kf, kn, kb⟩ := B.tab.first (by rw [List.length_map]; exact B.lem) (hs P w k)
  have small : K < 100000 := by
    have : SetTable.turns t.mask ≤ 142 := by
      unfold SetTable.turns
      rcases B.tab.mok with e | e | e <;> omega
    omega
  refine seek B hx hu kf kn kb yes (fun n => no K n kn kb) 100000 0 none rfl (Nat.zero_le _) small fun i p hp hk => ?_
  have il : i < t.place.toList.length := by
    rw [Array.length_toList, B.szp]
    exact (List.getElem?_eq_some_iff.mp hp).1
  obtain ⟨q, l, e⟩ := B.tab.before (h := hs P w k) kn (by rw [List.getElem?_map, hp, ← hk]; rfl) (List.getElem?_eq_getElem il)
  exact ⟨q, Nat.zero_le _, l, by rw [e]; exact List.getElem?_eq_getElem il⟩

/-! ### the table laid anew -/
theorem all_of_range {α : Type} : ∀ L : List α, (List.range L.length).filterMap (fun i => L[i]?) = L
  | [] => rfl
  | x :: r => by
    rw [List.length_cons, List.range_succ_eq_map, List.filterMap_cons_some (f := fun i => (x :: r)[i]?) (b := x) rfl, List.filterMap_map]
    exact congrArg (x :: ·) (all_of_range r)
theorem picked {f : Addr × List Str → Int} (g : Nat → Int) (hg : ∀ (i : Nat) (p : Addr × List Str), L[i]? = some p → g i = f p) : ∀ l : List Nat, (∀ i ∈ l, i < L.length) → (l.filterMap fun i => L[i]?).map f = l.map g
  | [], _ => rfl
  | i :: l, h => by
    obtain ⟨p, e⟩ : ∃ p, L[i]? = some p := ⟨_, List.getElem?_eq_getElem (h i List.mem_cons_self)⟩
    rw [List.filterMap_cons_some e, List.map_cons, List.map_cons, picked g hg l fun j hj => h j (List.mem_cons_of_mem _ hj), hg i p e]
theorem tk_but {h h' : Heap} {k : List Str} {b : Addr} {o : Obj} (z : Tk P w h k b) (ho : h.get? a = some o) (hd : o.data = .set es ep t) (sb : Heap.SameBut a h h') : Tk P w h' k b := by
  obtain ⟨o2, its, c, e1, e2, e3, e4⟩ := z
  refine ⟨o2, its, c, (sb.2 b fun e => ?_).trans e1, e2, e3, e4⟩
  cases (e ▸ e1 : h.get? a = some o2).symm.trans ho
  rw [hd] at e3
  cases e3
theorem relaid_at {o : Obj} (ho : s.heap.get? a = some o) (hx : o.ExactSet) (hd : o.data = .set es ep t) (rows : es.toList = L.map (row P w)) (zp : t.place.size = L.length) (dm : t.dummies = #[]) (lm : L.length ≤ t.mask)
    (led : w.params.followText "set-order" = true ∨ t.led = true) (few : L.length < 64) (tk : ∀ p ∈ L, Tk P w s.heap p.2 p.1) (nd : (L.map (·.2)).Nodup) {wanted M : Nat} (hw : SetTable.sizeAbove wanted = M + 1) (mok : MaskOk M) (room : L.length * 5 < M * 3)
    {Q : Unit → Shared → Prop} (q : ∀ h' L' es' ep' t', Heap.SameBut a s.heap h' → Bag P w h' a L' es' ep' t' → L'.Perm L → Q () { s with heap := h' }) : wpAny (model P w) A (setRelay a wanted) Q E s := by
  have zs := size_rows rows
  have M128 : M + 1 ≤ 128 := by rcases mok with e | e | e <;> omega
  obtain ⟨t2, order, e1, pm, T, em, el, _, _⟩ := relaid_ok t (hs := es.map (·.1)) (wanted := wanted) (by rw [hw]; rfl) mok (by rw [Array.size_map, zs]; omega)
  rw [Array.size_map, zs] at pm
  have below : ∀ i ∈ order.toList, i < L.length := fun i hi => List.mem_range.mp (pm.mem_iff.mp hi)
  have same : ∀ i : Nat, es[i]? = (L[i]?).map (row P w) := fun i => by rw [← Array.getElem?_toList, rows, List.getElem?_map]
  have rows2 : (order.filterMap (es[·]?)).toList = (order.toList.filterMap fun i => L[i]?).map (row P w) := by
    rw [Array.toList_filterMap, List.map_filterMap]
    exact congrArg (fun f => List.filterMap f order.toList) (funext same)
  have pl : (order.toList.filterMap fun i => L[i]?).Perm L := by
    have z := pm.filterMap fun i => L[i]?
    rw [all_of_range] at z
    exact z
  rw [← picked (L := L) (f := fun p => hs P w p.2) _ (fun i p hp => by
    have z : (es.map (·.1))[i]? = some (hs P w p.2) := by
      rw [Array.getElem?_map, same, hp]
      rfl
    rw [Array.getD_eq_getD_getElem?, z]
    rfl) order.toList below] at T
  generalize (order.toList.filterMap fun i => L[i]?) = L2 at rows2 pl T
  have z2 : (order.filterMap (es[·]?)).size = es.size := by rw [size_rows rows2, zs, pl.length_eq]
  rw [setRelay_eq]
  refine wpAny_bind (wpAny_setState_of ho hd (fits_of rows zp dm lm) ?_)
  dsimp only
  refine wp_if_neg (by rw [hw, sizeLine_eq]; omega) ?_
  try refine wpAny_bind (wpAny_pure ?_)
  rw [e1]
  refine wpAny_bind (wp_if_neg (by rw [z2]; simp) ?_)
  try refine wpAny_bind (wpAny_pure ?_)
  refine wpAny_pure (wpAny_storeSet_of ho hd ?_ (by rw [z2, zs, sizeLine_eq]; omega))
  have sb : Heap.SameBut a s.heap (s.heap.update a (Obj.putSet (order.filterMap (es[·]?)) t2)) := Heap.SameBut.update ..
  refine q _ L2 _ (ep + 1) t2 sb ⟨⟨_, store_at ho hd, ⟨hx.1, hx.2.1, hx.2.2⟩, rfl⟩, rows2, T, by rw [el]; exact led, by rw [pl.length_eq, em]; exact room, by rw [pl.length_eq]; exact few, fun p hp => tk_but (tk p (pl.mem_iff.mp hp)) ho hd sb, ?_⟩ pl
  exact (pl.map (·.2)).nodup_iff.mpr nd

/-! ### one more -/
theorem tab_plain {t : SetTable} {rows : List Int} (T : TabOk t rows) (b : Bool) : TabOk { t with plain := b } rows := ⟨T.ris, T.dm, T.sz, T.mok, T.bd, T.reach⟩
theorem added (B : Bag P w s.heap a L es ep t) {x : Addr} {k : List Str} (hx : Tk P w s.heap k x) (hu : A.units < cLine) (few : L.length + 1 < 64) {Q : Bool → Shared → Prop}
    (q : ∀ b h' L' es' ep' t', Heap.SameBut a s.heap h' → Bag P w h' a L' es' ep' t' → (k ∈ L.map (·.2) → L' = L) → (k ∉ L.map (·.2) → L'.Perm ((x, k) :: L)) → Q b { s with heap := h' }) :
    wpAny (model P w) A (setAddHashed a (.ref x) (hs P w k)) Q E s := by
  obtain ⟨o, e1, e2, e3⟩ := B.ob
  have ld : ∀ {R : Array (Int × Value) × Nat × SetTable → Shared → Prop}, R (es, ep, t) s → wpAny (model P w) A (setState a) R E s := fun r => wpAny_setState_of e1 e3 B.fits r
  unfold setAddHashed
  refine wpAny_holding ?_
  rw [show 100000 = 99999 + 1 from rfl, setAddHashedIn_succ]
  refine wpAny_bind (ld ?_)
  dsimp only
  refine wp_if_neg (by simp [byScan, Value.scannable]) ?_
  try refine wpAny_bind (wpAny_pure ?_)
  refine wpAny_bind (sought B hx hu (fun m => wpAny_pure (q false s.heap L es ep t (Heap.SameBut.refl a s.heap) B (fun _ => rfl) fun z => absurd m z)) fun K m kn kb => wpAny_bind (ld ?_))
  dsimp only
  obtain ⟨p1, p2, T, p4, p5, _, _, _, p9⟩ := B.tab.put kn kb
  rw [List.length_map] at p9
  have tf0 : ∀ b, ({ (t.put (way t.mask (hs P w k) K)).1 with plain := b } : SetTable).fill = L.length + 1 := fun b => p9
  generalize t.put (way t.mask (hs P w k) K) = pt at *
  obtain ⟨t1, at_⟩ := pt
  dsimp only at *
  subst p1
  have rows1 : (SetTable.insertAt es (SetTable.below t.place (way t.mask (hs P w k) K)) (hs P w k, Value.ref x)).toList = (L.take (SetTable.below t.place (way t.mask (hs P w k) K)) ++ (x, k) :: L.drop (SetTable.below t.place (way t.mask (hs P w k) K))).map (row P w) := by
    rw [SetTable.toList_insertAt, B.rows, List.map_append, List.map_cons, List.map_take, List.map_drop]
    rfl
  have T1 : TabOk t1 ((L.take (SetTable.below t.place (way t.mask (hs P w k) K)) ++ (x, k) :: L.drop (SetTable.below t.place (way t.mask (hs P w k) K))).map fun p => hs P w p.2) := by
    rw [List.map_append, List.map_cons, List.map_take, List.map_drop]
    exact T
  have pm := put_perm L (SetTable.below t.place (way t.mask (hs P w k) K)) (x, k)
  generalize SetTable.insertAt es (SetTable.below t.place (way t.mask (hs P w k) K)) (hs P w k, Value.ref x) = es1 at rows1 ⊢
  generalize L.take (SetTable.below t.place (way t.mask (hs P w k) K)) ++ (x, k) :: L.drop (SetTable.below t.place (way t.mask (hs P w k) K)) = L1 at rows1 T1 pm
  have l1 : L1.length = L.length + 1 := pm.length_eq
  have nd1 : (L1.map (·.2)).Nodup := (pm.map (·.2)).nodup_iff.mpr (List.nodup_cons.mpr ⟨m, B.nd⟩)
  have rest : ∀ b : Bool, wpAny (model P w) A (do
      storeSet a es1 (if b then t1 else { t1 with plain := false })
      if !false && (if b then t1 else { t1 with plain := false } : SetTable).tooFull then setRelay a (SetTable.grown (es.size + 1))
      return true) Q E s := fun b => by
    have Tb : TabOk (if b then t1 else { t1 with plain := false } : SetTable) (L1.map fun p => hs P w p.2) := by
      cases b
      · exact tab_plain T1 false
      · exact T1
    have mb : (if b then t1 else { t1 with plain := false } : SetTable).mask = t.mask := by cases b <;> exact p4
    have lb : (if b then t1 else { t1 with plain := false } : SetTable).led = t.led := by cases b <;> exact p5
    have fb : (if b then t1 else { t1 with plain := false } : SetTable).fill = L.length + 1 := by cases b <;> exact p9
    generalize (if b then t1 else { t1 with plain := false } : SetTable) = t2 at Tb mb lb fb ⊢
    refine wpAny_bind (wpAny_storeSet_of e1 e3 ?_ (by rw [size_rows rows1, l1, sizeLine_eq]; omega))
    have sb : Heap.SameBut a s.heap (s.heap.update a (Obj.putSet es1 t2)) := Heap.SameBut.update ..
    have ho := store_at (es' := es1) (t' := t2) e1 e3
    generalize s.heap.update a (Obj.putSet es1 t2) = h1 at sb ho ⊢
    have tk1 : ∀ p ∈ L1, Tk P w h1 p.2 p.1 := fun p hp => by
      cases pm.mem_iff.mp hp with
      | head => exact tk_but hx e1 e3 sb
      | tail _ hp => exact tk_but (B.tk p hp) e1 e3 sb
    have rm := B.room
    by_cases full : t2.tooFull = true
    · have much : t2.mask * 3 ≤ (L.length + 1) * 5 := by
        unfold SetTable.tooFull at full
        rw [decide_eq_true_eq, fb] at full
        exact full
      have at2 : (t.mask = 7 ∧ L.length = 4) ∨ (t.mask = 31 ∧ L.length = 18) := by
        rcases B.tab.mok with e | e | e <;> rw [mb, e] at much <;> rw [e] at rm <;> omega
      have go : ∀ M, SetTable.sizeAbove (SetTable.grown (L.length + 1)) = M + 1 → MaskOk M → L1.length * 5 < M * 3 → wpAny (model P w) A (setRelay a (SetTable.grown (L.length + 1))) (fun _ s1 => wpAny (model P w) A (pure true) Q E s1) E { s with heap := h1 } := fun M z1 z2 z3 =>
        relaid_at (s := { s with heap := h1 }) ho ⟨e2.1, e2.2.1, e2.2.2⟩ rfl rows1 (by rw [Tb.sz, List.length_map]) Tb.dm (by rw [mb, l1]; rcases at2 with ⟨u, v⟩ | ⟨u, v⟩ <;> omega) (by rw [lb]; exact B.led) (by omega) tk1 nd1 z1 z2 z3
          fun h2 L2 es2 ep2 t2 sb2 B2 pm2 => wpAny_pure (q true h2 L2 es2 ep2 t2 (sb.trans sb2) B2 (fun z => absurd z m) fun _ => pm2.trans pm)
      rw [size_rows B.rows]
      have both : wpAny (model P w) A (setRelay a (SetTable.grown (L.length + 1))) (fun _ s1 => wpAny (model P w) A (pure true) Q E s1) E { s with heap := h1 } := by
        rcases at2 with ⟨_, v⟩ | ⟨_, v⟩
        · exact go 31 (by rw [v, size_20]) (.inr (.inl rfl)) (by omega)
        · exact go 127 (by rw [v, size_76]) (.inr (.inr rfl)) (by omega)
      simp only [Bool.not_false, full, Bool.and_self, if_true]
      exact wpAny_bind both
    · simp only [Bool.not_false, full, Bool.true_and, Bool.false_eq_true, if_false]
      refine wpAny_bind (wpAny_pure (wpAny_pure (q true h1 L1 es1 _ t2 sb ⟨⟨_, ho, ⟨e2.1, e2.2.1, e2.2.2⟩, rfl⟩, rows1, Tb, by rw [lb]; exact B.led, ?_, by omega, tk1, nd1⟩ (fun z => absurd z m) fun _ => pm)))
      unfold SetTable.tooFull at full
      rw [decide_eq_true_eq, fb] at full
      omega
  by_cases hp : t1.plain = true
  · refine wp_if_pos hp (wpAny_bind (byval_tk hx fun b => ?_))
    exact rest b
  · refine wp_if_neg hp (wpAny_bind (wpAny_pure ?_))
    exact rest true
end

/-! ### the whole of a tuple -/
/-- what a set has of the first i -/
structure Cov (ks : List (Addr × List Str)) (i : Nat) (L : List (Addr × List Str)) : Prop where
  mem : ∀ k, k ∈ L.map (·.2) ↔ k ∈ (ks.take i).map (·.2)
  le : L.length ≤ i
  full : L.length = i ↔ ((ks.take i).map (·.2)).Nodup
theorem Cov.nil (ks : List (Addr × List Str)) : Cov ks 0 [] := ⟨fun _ => Iff.rfl, Nat.le_refl _, by simp⟩
theorem Cov.more {ks L L' : List (Addr × List Str)} {i : Nat} {x : Addr × List Str} (c : Cov ks i L) (e : ks[i]? = some x) (h1 : x.2 ∈ L.map (·.2) → L' = L) (h2 : x.2 ∉ L.map (·.2) → L'.Perm ((x.1, x.2) :: L)) : Cov ks (i + 1) L' := by
  have tk : (ks.take (i + 1)).map (·.2) = (ks.take i).map (·.2) ++ [x.2] := by
    rw [List.take_add_one, e, List.map_append]
    rfl
  have nd : ((ks.take (i + 1)).map (·.2)).Nodup ↔ ((ks.take i).map (·.2)).Nodup ∧ x.2 ∉ L.map (·.2) := by
    rw [tk, List.nodup_append]
    constructor
    · rintro ⟨a, _, b⟩
      exact ⟨a, fun h => b _ ((c.mem _).mp h) _ (List.mem_singleton.mpr rfl) rfl⟩
    · rintro ⟨a, b⟩
      refine ⟨a, by simp, fun y hy z hz q => b ((c.mem _).mpr ?_)⟩
      rw [← List.mem_singleton.mp hz, ← q]
      exact hy
  by_cases h : x.2 ∈ L.map (·.2)
  · cases h1 h
    refine ⟨fun k => ?_, Nat.le_succ_of_le c.le, ?_⟩
    · rw [tk, List.mem_append, List.mem_singleton, ← c.mem]
      exact ⟨.inl, fun z => z.elim id fun z => z ▸ h⟩
    · rw [nd]
      have := c.le
      exact ⟨fun z => absurd z (by omega), fun z => absurd h z.2⟩
  · have pm := h2 h
    refine ⟨fun k => ?_, ?_, ?_⟩
    · rw [(pm.map (·.2)).mem_iff, List.map_cons, List.mem_cons, tk, List.mem_append, List.mem_singleton, ← c.mem]
      exact Or.comm
    · rw [pm.length_eq]
      exact Nat.succ_le_succ c.le
    · rw [nd, pm.length_eq, List.length_cons, Nat.succ_inj, c.full]
      exact ⟨fun z => ⟨z, h⟩, fun z => z.1⟩
section
variable {prog : Program} {w : World} {A : Around} {R : Result → Shared → Prop} {it : Addr} {fp wr : List Addr} {G : Array GenState → Array GenState → Prop} {n : Nat} {Pv : Nat → Value → Prop} {St : Nat → Shared → Prop}
theorem loopTk (W : WalksS prog w A.in1 it fp wr G n Pv St) (b : Addr) (hb : b ∉ fp) (ks : List (Addr × List Str)) (hn : ks.length = n) (few : n < 64) (hv : ∀ (i : Nat) v, Pv i v → ∃ p, ks[i]? = some p ∧ v = .ref p.1) (hu : A.in1.units < cLine)
    (old : Heap) (tk : ∀ p ∈ ks, Tk prog w old p.2 p.1) (nb : old.get? b = none) (nw : ∀ q ∈ wr, old.get? q = none) :
    ∀ (k i : Nat) (s : Shared), n - i = k → i ≤ n → St i s → (∀ q o, old.get? q = some o → s.heap.get? q = some o) → (∃ L es ep t, Cov ks i L ∧ (∀ p ∈ L, p ∈ ks) ∧ Bag prog w s.heap b L es ep t) →
      (∀ s' L es ep t, Moved (b :: wr) G s s' → Cov ks n L → Bag prog w s'.heap b L es ep t → R (.ok (.ret .none)) s') →
      codeAny (model prog w) A (.builtin "set.update.loop" ⟨[.ref b, .ref it], []⟩) R s := by
  have bw : b ∉ wr := fun h => hb (W.sub _ h)
  have ws : ∀ q ∈ wr, q ∈ b :: wr := fun q hq => List.mem_cons_of_mem _ hq
  have kept : ∀ {u v : Heap} {p : Addr × List Str}, Tk prog w u p.2 p.1 → (∀ q o, u.get? q = some o → v.get? q = some o) → Tk prog w v p.2 p.1 := fun ⟨o, its, c, e, r⟩ f => ⟨o, its, c, f _ _ e, r⟩
  have same : ∀ {s1 s2 : Shared} {L es ep t}, Bag prog w s1.heap b L es ep t → Moved wr G s1 s2 → (∀ p ∈ L, p ∈ ks) → (∀ q o, old.get? q = some o → s2.heap.get? q = some o) → Bag prog w s2.heap b L es ep t := fun {s1 s2 L es ep t} B mv sub up => by
    obtain ⟨o, e, r⟩ := B.ob
    exact ⟨⟨o, mv.heap b o bw e, r⟩, B.rows, B.tab, B.led, B.room, B.few, fun p hp => kept (tk p (sub p hp)) up, B.nd⟩
  have up : ∀ {s1 s2 : Shared}, Moved wr G s1 s2 → (∀ q o, old.get? q = some o → s1.heap.get? q = some o) → ∀ q o, old.get? q = some o → s2.heap.get? q = some o := fun mv f q o e => mv.heap q o (fun z => by rw [nw q z] at e; cases e) (f q o e)
  intro k
  induction k with
  | zero =>
    rintro i s hk hi st f ⟨L, es, ep, t, c, sub, B⟩ done
    obtain rfl : i = n := by omega
    refine codeAny_builtin PyProof.Rows.F.entry_set_update_loop ?_
    rw [Around.under_plainId PyProof.Rows.F.plain_set_update_loop _]
    refine wpAny_bind (m := pyNext (.ref it)) (W.done s _ _ st fun s1 mv => ?_)
    exact wpAny_pure (done s1 L es ep t (mv.mono ws) c (same B mv sub (up mv f)))
  | succ k ih =>
    rintro i s hk hi st f ⟨L, es, ep, t, c, sub, B⟩ done
    have lt : i < n := by omega
    refine codeAny_builtin PyProof.Rows.F.entry_set_update_loop ?_
    rw [Around.under_plainId PyProof.Rows.F.plain_set_update_loop _]
    refine wpAny_bind (m := pyNext (.ref it)) (W.item i s _ _ lt st fun v s1 pv st1 mv => ?_)
    obtain ⟨p, ei, rfl⟩ := hv i v pv
    have B1 := same B mv sub (up mv f)
    have tp := kept (tk p (List.mem_of_getElem? ei)) (up mv f)
    refine wpAny_bind (m := holding [Value.ref p.1] (setAdd b (.ref p.1))) (wpAny_holding ?_)
    unfold setAdd
    refine wpAny_holding (wpAny_bind (wpAny_pyHash_tuple hu tp ?_))
    refine added (s := { s1 with toks := s1.toks + (p.2.length + 1) }) B1 tp hu (by have := c.le; omega) fun z h' L' es' ep' t' sb B2 c1 c2 => ?_
    have subL : ∀ q ∈ L', q ∈ ks := fun q hq => by
      by_cases h : p.2 ∈ L.map (·.2)
      · exact sub q (c1 h ▸ hq)
      · cases (c2 h).mem_iff.mp hq with
        | head => exact List.mem_of_getElem? ei
        | tail _ hq => exact sub q hq
    refine wpAny_pure ⟨plainId_quiet PyProof.Rows.F.plain_set_update_loop _, ih (i + 1) _ (by omega) lt (W.frame _ s1 _ _ st1 (Nat.le_add_right _ _) fun q hq o e => ?_) (fun q o e => ?_) ⟨L', es', ep', t', c.more ei c1 c2, subL, B2⟩ fun s2 L2 es2 ep2 t2 mv2 c3 B3 => ?_⟩
    · exact (sb.2 q fun z => hb (z ▸ hq)).trans e
    · exact (sb.2 q fun z => by rw [z, nb] at e; cases e).trans (up mv f q o e)
    · refine done s2 L2 es2 ep2 t2 (Moved.trans W.gtrans ((mv.mono ws).then_heap (Nat.le_add_right _ _) fun q o hq e => ?_) mv2) c3 B3
      exact (sb.2 q fun z => hq (z ▸ List.mem_cons_self)).trans e
end
section
variable {prog : Program} {w : World} {A : Around} {E : Value → Shared → Prop} {s : Shared}
theorem new_bag {h : Heap} {a : Addr} {led : Bool} (ho : h.get? a = some (setObj led)) (hl : w.params.followText "set-order" = true ∨ led = true) : Bag prog w h a [] #[] 0 (.fresh 0 0 led) where
  ob := ⟨_, ho, ⟨rfl, rfl, rfl⟩, rfl⟩
  rows := rfl
  tab := ⟨List.Pairwise.nil, rfl, rfl, .inl rfl, (fun _ z => nomatch z), (fun i u j e => by simp at e)⟩
  led := hl
  room := by
    show 0 * 5 < 7 * 3
    decide
  few := (by decide : 0 < 64)
  tk := fun _ z => nomatch z
  nd := List.nodup_nil
def ledOf (w : World) : Bool := !w.params.followText "set-order"
theorem ledOf_or (w : World) : w.params.followText "set-order" = true ∨ ledOf w = true := by
  unfold ledOf
  cases w.params.followText "set-order"
  · exact .inr rfl
  · exact .inl rfl
theorem init_tk {l : Addr} {items : Array Value} {ks : List (Addr × List Str)} (hh : A.handled = none) (hl : s.heap.IsTuple l items) (hi : items.toList = ks.map fun p => Value.ref p.1) (tk : ∀ p ∈ ks, Tk prog w s.heap p.2 p.1) (few : ks.length < 64) (hu : A.units + 4 < cLine) :
    codeAny (model prog w) A (.call (.builtin "set.__init__") ⟨[.ref s.heap.objs.size, .ref l], []⟩)
      (wants (fun r s2 => r = .none ∧ ∃ h' n L es ep t, s2 = { s with heap := h', toks := n } ∧ Cov ks ks.length L ∧ Bag prog w h' s.heap.objs.size L es ep t ∧ (∀ q o, s.heap.get? q = some o → h'.get? q = some o)) E)
      { s with heap := s.heap.push (setObj (ledOf w)) } := by
  have hT : Shared.TypeIs { s with heap := s.heap.push (setObj (ledOf w)) } (.ref s.heap.objs.size) "set" := ⟨_, Heap.get?_push_size _ rfl, rfl⟩
  refine codeAny_call_builtin PySem.F.called_set.init.plain PySem.F.entry_set_init (check_set_init_1 hT ?_)
  obtain ⟨⟨kc, kd, kx, kz⟩, hol, hcl, nl, hdl⟩ := hl
  simp only at hcl hdl
  subst hcl hdl
  have hol' : (s.heap.push (setObj (ledOf w))).get? l = some _ := Heap.get?_push_of_some _ hol
  have hl1 : (s.heap.push (setObj (ledOf w))).IsTuple l items := ⟨_, hol', rfl, nl, rfl⟩
  have hsls := PySem.F.sub_tuple_set
  have hslf := PySem.F.sub_tuple_frozenset
  have hne : (Value.type "tuple" == Value.type "dict") = false := by decide
  unfold Builtin.«set.__init__» noKeywords Builtin.Frozenset.updateFrom
  generalize ePI : pyIter = PI
  wp_walk
  subst ePI
  refine wpAny_pyIter_tuple hl1 (wpAny_bind (wpAny_runValue ?_))
  have below : l < s.heap.objs.size := Heap.lt_size hol
  have nh : A.in1.in1.handled = none := by simp [hh]
  have z1 : (s.heap.push (setObj (ledOf w))).objs.size = s.heap.objs.size + 1 := Heap.size_push ..
  have apart : l ≠ (s.heap.push (setObj (ledOf w))).objs.size := by
    rw [z1]
    exact Nat.ne_of_lt (Nat.lt_succ_of_lt below)
  have out : s.heap.objs.size ∉ [(s.heap.push (setObj (ledOf w))).objs.size, l] := by
    rw [List.mem_cons, List.mem_singleton, z1]
    exact fun q => q.elim (Nat.ne_of_lt (Nat.lt_succ_self _)) (Nat.ne_of_gt below)
  have zx : ks.length = items.size := by rw [← Array.length_toList, hi, List.length_map]
  have void : ∀ q, s.heap.objs.size ≤ q → s.heap.get? q = none := fun q hq => by
    cases e : s.heap.get? q with
    | none => rfl
    | some o => exact absurd (Heap.lt_size e) (Nat.not_lt_of_le hq)
  refine loopTk ((Walks.tuple nh _ l apart items).toS) s.heap.objs.size out ks zx (zx ▸ few) (fun i v e => ?val) (by simp; omega) s.heap tk (void _ (Nat.le_refl _)) (fun q hq => void q (by rw [List.mem_singleton.mp hq, z1]; omega)) (items.size - 0) 0 _ (by omega) (Nat.zero_le _) ?at_ (fun q o e => Heap.get?_push_of_some _ (Heap.get?_push_of_some _ e)) ?first ?last
  case val =>
    have e : items.toList[i]? = some v := Array.getElem?_toList ▸ e
    rw [hi, List.getElem?_map] at e
    obtain ⟨p, e1, e2⟩ := Option.map_eq_some_iff.mp e
    exact ⟨p, e1, e2.symm⟩
  case at_ => exact ⟨⟨_, Heap.get?_push_size _ rfl, rfl, rfl⟩, hl1.push _⟩
  case first => exact ⟨[], #[], 0, _, Cov.nil ks, fun _ z => (nomatch z), new_bag (Heap.get?_push_of_some _ (Heap.get?_push_size _ rfl)) (ledOf_or w)⟩
  case last =>
    rintro ⟨h', g', d', tk', os'⟩ L es ep t mv c B
    obtain rfl : g' = s.gens := mv.gens
    obtain rfl : d' = s.drawn := mv.drawn
    obtain rfl : os' = s.os := mv.os
    refine wpAny_pure (wpAny_pure ⟨rfl, h', tk', L, es, ep, t, rfl, zx ▸ c, B, fun q o e => ?_⟩)
    have lq := Heap.lt_size e
    refine mv.heap q o (by rw [List.mem_cons, List.mem_singleton, z1]; exact fun z => z.elim (Nat.ne_of_lt lq) (Nat.ne_of_lt (Nat.lt_succ_of_lt lq))) (Heap.get?_push_of_some _ (Heap.get?_push_of_some _ e))
set_option maxHeartbeats 8000000 in
theorem call_set_tk {l : Addr} {items : Array Value} {ks : List (Addr × List Str)} {Q : Value → Shared → Prop} (hh : A.handled = none) (hl : s.heap.IsTuple l items) (hi : items.toList = ks.map fun p => Value.ref p.1) (tk : ∀ p ∈ ks, Tk prog w s.heap p.2 p.1) (few : ks.length < 64) (hu : A.units + 8 < cLine)
    (h : ∀ (h' : Heap) (n : Nat) L es ep t, Cov ks ks.length L → Bag prog w h' s.heap.objs.size L es ep t → (∀ q o, s.heap.get? q = some o → h'.get? q = some o) → Q (.ref s.heap.objs.size) { s with heap := h', toks := n }) :
    wpAny (model prog w) A (call (.type "set") [.ref l]) Q E s := by
  obtain ⟨_, _, hmro⟩ := PySem.F.called_set.mro
  have hmade := PySem.F.called_set.made
  have hsub := PySem.F.called_set.sub
  have h1 := PySem.F.called_set.notType
  have h2 := PySem.F.called_set.canCreate
  have hct := PySem.F.typeCall_set_1 (.ref l)
  refine wpAny_call (codeAny_of_tree (wpAny_pure (a := _) ⟨Code.quiet_builtin _ (by decide +kernel), codeAny_builtin PySem.F.entry_type_call ?_⟩))
  rw [Around.under_plain (weight_type_call_type "set" [.ref l] []) rfl]
  repeat (any_goals (first | assumption | wp_step))
  refine codeAny_mono (code_set_led1 (.ref l) (E := E) (Q₁ := fun v s1 => v = .ref s.heap.objs.size ∧ s1 = { s with heap := s.heap.push (setObj (ledOf w)) }) ⟨rfl, rfl⟩) fun r s1 hr => ?_
  match r, hr with
  | .ok (.ret v), hr =>
    obtain ⟨rfl, rfl⟩ := hr
    have hS : (s.heap.push (setObj (ledOf w))).get? s.heap.objs.size = some (setObj (ledOf w)) := Heap.get?_push_size _ rfl
    have hT : Shared.TypeIs { s with heap := s.heap.push (setObj (ledOf w)) } (.ref s.heap.objs.size) "set" := ⟨_, hS, rfl⟩
    have hli := PySem.F.called_set.init.lookup
    have hbi := PySem.F.called_set.init.bind (.ref s.heap.objs.size)
    repeat (any_goals (first | assumption | wp_step))
    refine codeAny_mono (init_tk (E := E) (by simp [hh]) hl hi tk few (by simp; omega)) fun r s2 hr => ?_
    match r, hr with
    | .ok (.ret v), hr =>
      obtain ⟨rfl, h', n, L, es, ep, t, rfl, c, B, keep⟩ := hr
      repeat (any_goals (first | assumption | wp_step))
      exact h h' n L es ep t c B keep
    | .error e, hr => exact hr
    | .ok .next, hr => exact hr.elim
    | .ok .brk, hr => exact hr.elim
    | .ok .cont, hr => exact hr.elim
  | .error e, hr => exact hr
  | .ok .next, hr => exact hr.elim
  | .ok .brk, hr => exact hr.elim
  | .ok .cont, hr => exact hr.elim
end
theorem items_tk {P : Program} {w : World} : ∀ {k : List Str} {us : List Value}, Vals (k.map V.str) us → ItemsAre (PySem.strKind P w) k us
  | [], _, .nil => .nil
  | _ :: _, _, .cons r t => by
    obtain ⟨z, rfl⟩ := r
    exact .cons (strKind_is _ _ _ _) (items_tk t)
theorem refs_tk : ∀ {ks : List (Addr × List Str)} {us : List Value}, Vals (ks.map fun p => V.ref p.1) us → us = ks.map fun p => Value.ref p.1
  | [], _, .nil => rfl
  | _ :: _, _, .cons r t => by
    cases r
    exact congrArg _ (refs_tk t)
/-- len(set(t)), t a tuple of tuples of texts -/
def tLenSetTk (K : PySem.W.Frag) (ta : TE) : TE := fun σ H Q => ta σ H fun x H1 => ∃ (l : Addr) (ks : List (Addr × List Str)), x = .ref l ∧ SqT K H1 l (ks.map fun p => V.ref p.1) ∧ (∀ p ∈ ks, SqT K H1 p.1 (p.2.map V.str)) ∧ ks.length < 64 ∧ ∀ c : Nat, c ≤ ks.length → (c = ks.length ↔ (ks.map (·.2)).Nodup) → Q (.int c) H1
theorem pe_lenSetTk {X : Cx} {a : Expr} {ta : TE} {p p2 q pos : Pos} (hg : Gl X "len") (hm : X.mg "len" = none) (hg2 : Gl X "set") (hm2 : X.mg "set" = none) (hu : X.A.units + 64 < cLine) (ha : PE X a ta) (hc : X.calm = true := by rfl)
    (na : starEach [a] X.env = (false, eval a X.env) :: starEach [] X.env := by rfl) : PE X (.Call (.Name "len" p) [.Call (.Name "set" p2) [a] [] q] [] pos) (tLenSetTk X.K ta) := by
  refine ⟨fun pins s σ H Q I h => Call_ (ld_blt I hg hm boot_len (PyProof.Rows.callWith_builtin1 (PyProof.Rows.args_cons (Call_ (ld_blt I hg2 hm2 boot_set (PyProof.Rows.callWith_type1 (PyProof.Rows.args_cons (thn (ha.run pins s σ H _ I h) fun v s1 ⟨x, H1, I1, r1, q1⟩ => PyProof.Rows.args_nil ?_) na) na rfl))) rfl) rfl rfl))⟩
  obtain ⟨l, ks, rfl, ht, hk, few, q1⟩ := q1
  obtain rfl : v = Value.ref l := r1
  obtain ⟨its, rv, pl, _⟩ := I1.tuple ht
  refine call_set_tk (ks := ks) (I1.ok.hd hc) pl (by simpa using refs_tk rv) (fun p hp => ?_) few (by omega) fun h' n L es ep t c B keep => PyProof.Rows.args_nil ?_
  · obtain ⟨us, r, ⟨o, e1, e2, m, e3⟩, _⟩ := I1.tuple (hk p hp)
    exact ⟨o, us.toArray, m, e1, e2, e3, by simpa using items_tk r⟩
  · have I2 : Inv X pins σ H1 { s1 with heap := h', toks := n } := I1.kept keep
    obtain ⟨o, e1, e2, e3⟩ := B.ob
    have z := c.full
    rw [List.take_length] at z
    exact call_len_set e1 e2 e3 (fits_of B.rows (by rw [B.tab.sz, List.length_map]) B.tab.dm (by have := B.room; omega)) (by rw [size_rows B.rows]; have := B.few; omega) ⟨.int L.length, H1, I2.tok _, ⟨_, by rw [size_rows B.rows]⟩, q1 L.length c.le z⟩
end El

set_option Elab.async false
set_option linter.all false
set_option maxRecDepth 100000
set_option maxHeartbeats 4000000
/-! Own words: `in`, `not in` for pairs of texts in tuples and lists of such, `==` of such pairs; keyword-only parameters with defaults. -/
namespace El
open PySem PySem.Spec PyProof.Rows L2
theorem dec_iff {p : Prop} {i : Decidable p} : @decide p i = true ↔ p := decide_eq_true_iff
section
variable {X : Cx}
/-- the tuple (a, b) of texts -/
def PairAt (K : PySem.W.Frag) (H : Hp) (v : V) (p : Str × Str) : Prop := ∃ r, v = .ref r ∧ SqT K H r [.str p.1, .str p.2]
/-- a row of such -/
inductive PairsIn (K : PySem.W.Frag) (H : Hp) : List V → List (Str × Str) → Prop
  | nil : PairsIn K H [] []
  | cons {v : V} {p : Str × Str} {vs : List V} {ps : List (Str × Str)} : PairAt K H v p → PairsIn K H vs ps → PairsIn K H (v :: vs) (p :: ps)
theorem PairAt.dp {K : PySem.W.Frag} {H : Hp} {v : V} {p : Str × Str} (h : PairAt K H v p) : Dp K H v (PySem.W.Datum.toD p) := by
  obtain ⟨r, rfl, h⟩ := h
  exact .tup h (.cons (.str _) (.cons (.str _) .nil))
theorem PairsIn.dp {K : PySem.W.Frag} {H : Hp} {vs : List V} {ps : List (Str × Str)} (h : PairsIn K H vs ps) : DpAll K H vs (ps.map PySem.W.Datum.toD) := by
  induction h with
  | nil => exact .nil
  | cons a _ ih => exact .cons a.dp ih
def rInP (K : PySem.W.Frag) (neg : Bool) : R2 := fun x y H Q => ∃ (p : Str × Str) (l : Addr) (vs : List V) (ps : List (Str × Str)), PairAt K H x p ∧ y = .ref l ∧ (SqT K H l vs ∨ SqL K H l vs) ∧ PairsIn K H vs ps ∧ Q (.bl (if neg then decide (p ∉ ps) else decide (p ∈ ps))) H
theorem op_inP (K : PySem.W.Frag) (neg : Bool) (hu : X.A.units + 64 < cLine) (hK : X.K = K := by rfl) : OpR X (compareOp (if neg then .NotIn else .In)) (rInP K neg) := by
  subst hK
  intro pins s σ H x y v u Q I rx ry h
  obtain ⟨p, l, vs, ps, hp, rfl, hl, hv, q⟩ := h
  obtain ⟨bs, rd⟩ := Dp.reads I _ x v hp.dp rx
  have dep : PySem.W.Datum.depth (Str × Str) ≤ 2 := by decide
  have any_ : ((ps.map PySem.W.Datum.toD).any fun d => PyData.eqv d (PySem.W.Datum.toD p)) = true ↔ p ∈ ps := by
    have z := PySem.W.any_datum ps p
    exact (Bool.eq_iff_iff.mp z).trans dec_iff
  have room : X.A.units + 1 + min (PyData.depthAll (ps.map PySem.W.Datum.toD)) (PySem.W.Datum.toD p).depth < cLine := by
    have := PySem.W.Datum.depth_le p
    have := Nat.min_le_right (PyData.depthAll (ps.map PySem.W.Datum.toD)) (PySem.W.Datum.toD p).depth
    omega
  have yes : ∀ b : Bool, (b = true ↔ p ∈ ps) → b = decide (p ∈ ps) := fun b hb => by rw [Bool.eq_iff_iff, hb, decide_eq_true_iff]
  have no : ∀ b : Bool, (b = true ↔ p ∈ ps) → (!b) = decide (p ∉ ps) := fun b hb => by rw [yes b hb, decide_not]
  rcases hl with hl | hl
  · obtain ⟨as, rc⟩ := Dp.reads I _ (.ref l) u (.tup hl hv.dp) ry
    cases neg
    · exact PySem.SeqAt.in_tuple_data rc rd (PySem.W.plainAll_map ps) (PySem.W.Datum.plain p) room (by rw [yes _ any_]; exact ⟨.bl _, H, I, rfl, q⟩)
    · exact PySem.SeqAt.notIn_tuple_data rc rd (PySem.W.plainAll_map ps) (PySem.W.Datum.plain p) room (by rw [no _ any_]; exact ⟨.bl _, H, I, rfl, q⟩)
  · obtain ⟨as, rc⟩ := Dp.reads I _ (.ref l) u (.lst hl hv.dp) ry
    cases neg
    · exact PySem.SeqAt.in_list_data rc rd (PySem.W.plainAll_map ps) (PySem.W.Datum.plain p) room (by rw [yes _ any_]; exact ⟨.bl _, H, I, rfl, q⟩)
    · exact PySem.SeqAt.notIn_list_data rc rd (PySem.W.plainAll_map ps) (PySem.W.Datum.plain p) room (by rw [no _ any_]; exact ⟨.bl _, H, I, rfl, q⟩)
theorem inP (K : PySem.W.Frag) (hu : X.A.units + 64 < cLine) (hK : X.K = K := by rfl) : OpR X (compareOp .In) (rInP K false) := op_inP K false hu hK
theorem notInP (K : PySem.W.Frag) (hu : X.A.units + 64 < cLine) (hK : X.K = K := by rfl) : OpR X (compareOp .NotIn) (rInP K true) := op_inP K true hu hK
def rEqP (K : PySem.W.Frag) : R2 := fun x y H Q => ∃ p q : Str × Str, PairAt K H x p ∧ PairAt K H y q ∧ Q (.bl (decide (p = q))) H
theorem eqP (K : PySem.W.Frag) (hu : X.A.units + 64 < cLine) (hK : X.K = K := by rfl) : OpR X (compareOp .Eq) (rEqP K) := by
  subst hK
  intro pins s σ H x y v u Q I rx ry h
  obtain ⟨p, q, hp, hq, k⟩ := h
  obtain ⟨as, ra⟩ := Dp.reads I _ x v hp.dp rx
  obtain ⟨bs, rb⟩ := Dp.reads I _ y u hq.dp ry
  have dep : PySem.W.Datum.depth (Str × Str) ≤ 2 := by decide
  have := PySem.W.Datum.depth_le p
  have := Nat.min_le_left (PySem.W.Datum.toD p).depth (PySem.W.Datum.toD q).depth
  exact PySem.SeqAt.eq_plain ra rb (PySem.W.Datum.plain p) (PySem.W.Datum.plain q) (by omega) (by rw [PySem.W.Datum.eqv]; exact ⟨.bl _, H, I, rfl, k⟩)
/-- len(set(t)), t a tuple of pairs of texts -/
def tLenSetP (K : PySem.W.Frag) (ta : TE) : TE := fun σ H Q => ta σ H fun x H1 => ∃ (l : Addr) (vs : List V) (ps : List (Str × Str)), x = .ref l ∧ SqT K H1 l vs ∧ PairsIn K H1 vs ps ∧ ps.length < 64 ∧ ∀ c : Nat, c ≤ ps.length → (c = ps.length ↔ ps.Nodup) → Q (.int c) H1
theorem pairs_ks {K : PySem.W.Frag} {H : Hp} {vs : List V} {ps : List (Str × Str)} (h : PairsIn K H vs ps) : ∃ ks : List (Addr × List Str), vs = ks.map (fun p => V.ref p.1) ∧ (∀ p ∈ ks, SqT K H p.1 (p.2.map V.str)) ∧ ks.map (·.2) = ps.map fun p => [p.1, p.2] := by
  induction h with
  | nil => exact ⟨[], rfl, fun _ z => (nomatch z), rfl⟩
  | @cons v p vs ps a _ ih =>
    obtain ⟨r, rfl, h⟩ := a
    obtain ⟨ks, e1, e2, e3⟩ := ih
    refine ⟨(r, [p.1, p.2]) :: ks, by rw [e1]; rfl, fun q hq => ?_, by rw [List.map_cons, List.map_cons, e3]⟩
    cases hq with
    | head => exact h
    | tail _ hq => exact e2 q hq
theorem nodup_map_inj {α β : Type} {f : α → β} (hf : ∀ a b, f a = f b → a = b) {l : List α} : (l.map f).Nodup ↔ l.Nodup :=
  ⟨fun h => List.Pairwise.of_map f (fun _ _ n e => n (congrArg f e)) h, fun h => List.pairwise_map.mpr (List.Pairwise.imp (fun n e => n (hf _ _ e)) h)⟩
theorem pe_lenSetP {a : Expr} {ta : TE} {p p2 q pos : Pos} (K : PySem.W.Frag) (hg : Gl X "len") (hm : X.mg "len" = none) (hg2 : Gl X "set") (hm2 : X.mg "set" = none) (hu : X.A.units + 64 < cLine) (ha : PE X a ta) (hc : X.calm = true := by rfl)
    (na : starEach [a] X.env = (false, eval a X.env) :: starEach [] X.env := by rfl) (hK : X.K = K := by rfl) : PE X (.Call (.Name "len" p) [.Call (.Name "set" p2) [a] [] q] [] pos) (tLenSetP K ta) := by
  subst hK
  refine ⟨fun pins s σ H Q I h => Call_ (ld_blt I hg hm boot_len (PyProof.Rows.callWith_builtin1 (PyProof.Rows.args_cons (Call_ (ld_blt I hg2 hm2 boot_set (PyProof.Rows.callWith_type1 (PyProof.Rows.args_cons (thn (ha.run pins s σ H _ I h) fun v s1 ⟨x, H1, I1, r1, q1⟩ => PyProof.Rows.args_nil ?_) na) na rfl))) rfl) rfl rfl))⟩
  obtain ⟨l, vs, ps, rfl, ht, hv, few, q1⟩ := q1
  obtain ⟨ks, rfl, hk, e3⟩ := pairs_ks hv
  have el : ks.length = ps.length := by
    have := congrArg List.length e3
    rwa [List.length_map, List.length_map] at this
  obtain rfl : v = Value.ref l := r1
  obtain ⟨its, rv, pl, _⟩ := I1.tuple ht
  refine call_set_tk (ks := ks) (I1.ok.hd hc) pl (by simpa using refs_tk rv) (fun p hp => ?_) (by omega) (by omega) fun h' n L es ep t c B keep => PyProof.Rows.args_nil ?_
  · obtain ⟨us, r, ⟨o, e1, e2, m, e3⟩, _⟩ := I1.tuple (hk p hp)
    exact ⟨o, us.toArray, m, e1, e2, e3, by simpa using items_tk r⟩
  · have I2 : Inv X pins σ H1 { s1 with heap := h', toks := n } := I1.kept keep
    obtain ⟨o, e1, e2, e4⟩ := B.ob
    have z := c.full
    rw [List.take_length] at z
    have c1 := c.le
    refine call_len_set e1 e2 e4 (fits_of B.rows (by rw [B.tab.sz, List.length_map]) B.tab.dm (by have := B.room; omega)) (by rw [size_rows B.rows]; have := B.few; omega) ⟨.int L.length, H1, I2.tok _, ⟨_, by rw [size_rows B.rows]⟩, q1 L.length (by omega) ?_⟩
    rw [← el, z, e3]
    exact nodup_map_inj fun a b e => by
      injection e with e1 e2
      injection e2 with e2 _
      exact Prod.ext e1 e2
end

/-! ### two keyword-only parameters with defaults -/
structure Kw2 (K : PySem.W.Frag) (fd : FuncData) (ps : List Str) (n : Nat) (k1 k2 : Str) (d1 d2 : V) : Prop where
  no : ∃ g, KBn K fd ps n [] g (fun vs _ => vs ++ [d1, d2])
  one : ∃ g, KBn K fd ps n [k1] g (fun vs zs => vs ++ (zs ++ [d2]))
  two : ∃ g, KBn K fd ps n [k2] g (fun vs zs => vs ++ (d1 :: zs))
  all : ∃ g, KBn K fd ps n [k1, k2] g (fun vs zs => vs ++ zs)
theorem Vals.app {vs ws : List V} {us xs : List Value} (a : Vals vs us) (b : Vals ws xs) : Vals (vs ++ ws) (us ++ xs) := by
  induction a with
  | nil => exact b
  | cons r _ ih => exact .cons r ih
theorem kw2_mk {K : PySem.W.Frag} {x qual : Str} {params : Arguments} {body : List Stmt} {scope : Scope} {f : Addr} {fd : FuncData} {ps : List Str} {k1 k2 : Str} {d1 d2 : V} (n : Nat) (F : FunD K x qual params body scope [] [(k1, d1), (k2, d2)] f fd)
    (h0 : ∀ (D : Addr) (doc pm : Value) (an : Option Addr) (cdv ct : Value) (us : List Value) (m1 m2 : Value), us.length = n → KwChain D [(k1, m1), (k2, m2)] (bindArgs (PySem.W.fnOf x qual params body scope .none (.ref D) doc pm an cdv ct) ⟨us, []⟩) (ps.zip (us ++ [m1, m2])))
    (h1 : ∀ (D : Addr) (doc pm : Value) (an : Option Addr) (cdv ct : Value) (us : List Value) (m2 w1 : Value), us.length = n → KwChain D [(k2, m2)] (bindArgs (PySem.W.fnOf x qual params body scope .none (.ref D) doc pm an cdv ct) ⟨us, [(k1, w1)]⟩) (ps.zip (us ++ [w1, m2])))
    (h2 : ∀ (D : Addr) (doc pm : Value) (an : Option Addr) (cdv ct : Value) (us : List Value) (m1 w2 : Value), us.length = n → KwChain D [(k1, m1)] (bindArgs (PySem.W.fnOf x qual params body scope .none (.ref D) doc pm an cdv ct) ⟨us, [(k2, w2)]⟩) (ps.zip (us ++ [m1, w2])))
    (h3 : ∀ (D : Addr) (doc pm : Value) (an : Option Addr) (cdv ct : Value) (us : List Value) (w1 w2 : Value), us.length = n → KwChain D [] (bindArgs (PySem.W.fnOf x qual params body scope .none (.ref D) doc pm an cdv ct) ⟨us, [(k1, w1), (k2, w2)]⟩) (ps.zip (us ++ [w1, w2]))) :
    Kw2 K fd ps n k1 k2 d1 d2 where
  no := by
    obtain ⟨mv, h⟩ := F.kbinds0 n [] [(k1, d1), (k2, d2)] (fun us ms _ => us ++ ms) (by simp) (fun q h => h) (fun a b _ => Vals.app a b) fun D doc pm an cdv ct us mv ws l1 l2 l3 => match mv, ws, l2, l3 with | [m1, m2], [], _, _ => h0 D doc pm an cdv ct us m1 m2 l1
    exact ⟨_, h⟩
  one := by
    obtain ⟨mv, h⟩ := F.kbinds0 n [k1] [(k2, d2)] (fun us ms ws => us ++ (ws ++ ms)) (by simp) (fun q h => List.mem_cons_of_mem _ h) (fun a b c => Vals.app a (Vals.app c b)) fun D doc pm an cdv ct us mv ws l1 l2 l3 => match mv, ws, l2, l3 with | [m2], [w1], _, _ => h1 D doc pm an cdv ct us m2 w1 l1
    exact ⟨_, h⟩
  two := by
    obtain ⟨mv, h⟩ := F.kbinds0 n [k2] [(k1, d1)] (fun us ms ws => us ++ (ms ++ ws)) (by simp) (fun q h => by rw [List.mem_singleton.mp h]; exact List.mem_cons_self) (fun a b c => Vals.app a (Vals.app b c)) fun D doc pm an cdv ct us mv ws l1 l2 l3 => match mv, ws, l2, l3 with | [m1], [w2], _, _ => h2 D doc pm an cdv ct us m1 w2 l1
    exact ⟨_, h⟩
  all := by
    obtain ⟨mv, h⟩ := F.kbinds0 n [k1, k2] [] (fun us ms ws => us ++ ws) (by simp) (fun q h => nomatch h) (fun a b c => Vals.app a c) fun D doc pm an cdv ct us mv ws l1 l2 l3 => match mv, ws, l2, l3 with | [], [w1, w2], _, _ => h3 D doc pm an cdv ct us w1 w2 l1
    exact ⟨_, h⟩
/-- a def of the text with two keyword-only parameters that have defaults -/
theorem fundk_mk {K : PySem.W.Frag} {x qual k1 k2 : Str} {st : Stmt} {f D e1 e2 : Addr} {oc : Value} {od an : Option Addr} {osl : Array (Option Value)} {doc pm cdv ct : Value}
    (l : K.lookup f = some ⟨oc, od, .func (PySem.W.fnOf x qual (defArgs st) (defBody st) (defScope st) .none (.ref D) doc pm an cdv ct), osl⟩) (c : PySem.W.codeIn K cdv qual = true) (k : PySem.W.keepIn K (.ref f) = true)
    (h1 : PySem.W.nsIn K D k1 = some (some (.ref e1))) (h2 : PySem.W.nsIn K D k2 = some (some (.ref e2))) : FunD K x qual (defArgs st) (defBody st) (defScope st) [] [(k1, V.ref e1), (k2, V.ref e2)] f (PySem.W.fnOf x qual (defArgs st) (defBody st) (defScope st) .none (.ref D) doc pm an cdv ct) := by
  refine ⟨⟨oc, od, .none, .ref D, doc, pm, an, cdv, ct, osl, rfl, l, c, .inl ⟨rfl, rfl⟩, .inr ⟨D, rfl, fun q hq => ?_⟩⟩, k⟩
  cases hq with
  | head => exact ⟨_, h1, rfl⟩
  | tail _ hq =>
    cases hq with
    | head => exact ⟨_, h2, rfl⟩
    | tail _ hq => exact nomatch hq
/-- a class whose __init__ has two keyword-only parameters, their defaults empty tuples -/
structure CalK (P : Program) (w : World) (K : PySem.W.Frag) (mg : Str → Option Value) (base : Heap) (CX : CXT) (k : Nat) (x : Str) (C f : Addr) (fd : FuncData) (ps : List Str) (n : Nat) (k1 k2 : Str) (e1 e2 : Addr) (sp : Sp) : Prop where
  G : FnOk P w K mg base CX k f fd ps sp
  b : Kw2 K fd ps n k1 k2 (.ref e1) (.ref e2)
  mkc : Mk K C f
  m : mg x = some (.ref C)
  t1 : ∀ H, SqT K H e1 []
  t2 : ∀ H, SqT K H e2 []
section
variable {X : Cx} {CX : CXT} {k : Nat} {C f e1 e2 : Addr} {fd : FuncData} {ps : List Str} {sp : Sp} {E : XK} {x k1 k2 : Str} {p pos : Pos} {e : Expr} {es : List Expr} {t tk : TA} {kws : List Keyword} {n : Nat}
theorem pe_mkNo (c : CalK X.prog X.w X.K X.mg X.base CX k x C f fd ps (n + 1) k1 k2 e1 e2 sp) (hr : Room (k + 1) X.A) (hg : Gl X x) (hx : Passes CX X E) (ha : PA X (e :: es) t) (hkw : PK X [] tk) (hdb : (x == ("__debug__" : Str)) = false := by decide)
    (he : starEach (e :: es) X.env = (false, eval e X.env) :: starEach es X.env := by rfl) (hpl : ((backTo pos (starEach (e :: es) X.env)).any (·.1) || (backToKw pos (keywordEach [] X.env)).any (·.1.isNone)) = false := by rfl) (hall : (backToKw pos (keywordEach [] X.env)).all (·.1.isSome) = true := by rfl) (hks : (backToKw pos (keywordEach [] X.env)).filterMap (·.1) = [] := by rfl) :
    PE X (.Call (.Name x p) (e :: es) [] pos) (tMakeK C n 0 sp (fun vs _ => vs ++ [.ref e1, .ref e2]) E t tk) := by
  obtain ⟨g, hb⟩ := c.b.no
  exact pe_makeK c.mkc c.G hr hg c.m hb hx ha hkw hall hks hdb he hpl
theorem pe_mkOne (c : CalK X.prog X.w X.K X.mg X.base CX k x C f fd ps (n + 1) k1 k2 e1 e2 sp) (hr : Room (k + 1) X.A) (hg : Gl X x) (hx : Passes CX X E) (ha : PA X (e :: es) t) (hkw : PK X kws tk) (hdb : (x == ("__debug__" : Str)) = false := by decide)
    (he : starEach (e :: es) X.env = (false, eval e X.env) :: starEach es X.env := by rfl) (hpl : ((backTo pos (starEach (e :: es) X.env)).any (·.1) || (backToKw pos (keywordEach kws X.env)).any (·.1.isNone)) = false := by rfl) (hall : (backToKw pos (keywordEach kws X.env)).all (·.1.isSome) = true := by rfl) (hks : (backToKw pos (keywordEach kws X.env)).filterMap (·.1) = [k1] := by rfl) :
    PE X (.Call (.Name x p) (e :: es) kws pos) (tMakeK C n 1 sp (fun vs zs => vs ++ (zs ++ [.ref e2])) E t tk) := by
  obtain ⟨g, hb⟩ := c.b.one
  exact pe_makeK c.mkc c.G hr hg c.m hb hx ha hkw hall hks hdb he hpl
theorem pe_mkTwo (c : CalK X.prog X.w X.K X.mg X.base CX k x C f fd ps (n + 1) k1 k2 e1 e2 sp) (hr : Room (k + 1) X.A) (hg : Gl X x) (hx : Passes CX X E) (ha : PA X (e :: es) t) (hkw : PK X kws tk) (hdb : (x == ("__debug__" : Str)) = false := by decide)
    (he : starEach (e :: es) X.env = (false, eval e X.env) :: starEach es X.env := by rfl) (hpl : ((backTo pos (starEach (e :: es) X.env)).any (·.1) || (backToKw pos (keywordEach kws X.env)).any (·.1.isNone)) = false := by rfl) (hall : (backToKw pos (keywordEach kws X.env)).all (·.1.isSome) = true := by rfl) (hks : (backToKw pos (keywordEach kws X.env)).filterMap (·.1) = [k2] := by rfl) :
    PE X (.Call (.Name x p) (e :: es) kws pos) (tMakeK C n 1 sp (fun vs zs => vs ++ (.ref e1 :: zs)) E t tk) := by
  obtain ⟨g, hb⟩ := c.b.two
  exact pe_makeK c.mkc c.G hr hg c.m hb hx ha hkw hall hks hdb he hpl
theorem pe_mkAll (c : CalK X.prog X.w X.K X.mg X.base CX k x C f fd ps (n + 1) k1 k2 e1 e2 sp) (hr : Room (k + 1) X.A) (hg : Gl X x) (hx : Passes CX X E) (ha : PA X (e :: es) t) (hkw : PK X kws tk) (hdb : (x == ("__debug__" : Str)) = false := by decide)
    (he : starEach (e :: es) X.env = (false, eval e X.env) :: starEach es X.env := by rfl) (hpl : ((backTo pos (starEach (e :: es) X.env)).any (·.1) || (backToKw pos (keywordEach kws X.env)).any (·.1.isNone)) = false := by rfl) (hall : (backToKw pos (keywordEach kws X.env)).all (·.1.isSome) = true := by rfl) (hks : (backToKw pos (keywordEach kws X.env)).filterMap (·.1) = [k1, k2] := by rfl) :
    PE X (.Call (.Name x p) (e :: es) kws pos) (tMakeK C n 2 sp (fun vs zs => vs ++ zs) E t tk) := by
  obtain ⟨g, hb⟩ := c.b.all
  exact pe_makeK c.mkc c.G hr hg c.m hb hx ha hkw hall hks hdb he hpl
end
end El

set_option Elab.async false
set_option linter.all false
set_option maxRecDepth 100000
set_option maxHeartbeats 4000000
/-! Own words: len(set(xs)) of a list or a tuple of any number of texts. -/
namespace El
open PySem PySem.Spec PyProof.Rows L2
section
variable {prog : Program} {w : World} {A : Around} {E : Value → Shared → Prop} {s : Shared}
/-- what set.__init__ does to a new set with a list of texts -/
theorem init_txL {l : Addr} {items : Array Value} {xs : List Str} {led : Bool} (hh : A.handled = none) (hl : s.heap.IsList l items) (hi : PyProof.Rows.StrsAre items.toList xs) (hx : xs.length + 1 < scanBound) :
    codeAny (model prog w) A (.call (.builtin "set.__init__") ⟨[.ref s.heap.objs.size, .ref l], []⟩)
      (wants (fun r s2 => r = .none ∧ ∃ h' tk c, s2 = { s with heap := h', toks := tk } ∧ Cnt xs xs.length c ∧ h'.SetOf (PySem.strKind prog w) s.heap.objs.size (Has xs xs.length) c ∧ (∀ q o, s.heap.get? q = some o → h'.get? q = some o)) E)
      { s with heap := s.heap.push (setObj led) } := by
  have hT : Shared.TypeIs { s with heap := s.heap.push (setObj led) } (.ref s.heap.objs.size) "set" := ⟨_, Heap.get?_push_size _ rfl, rfl⟩
  refine codeAny_call_builtin PySem.F.called_set.init.plain PySem.F.entry_set_init (check_set_init_1 hT ?_)
  obtain ⟨⟨kc, kd, kx, ks⟩, hol, hcl, nl, hdl⟩ := hl
  simp only at hcl hdl
  subst hcl hdl
  have hol' : (s.heap.push (setObj led)).get? l = some _ := Heap.get?_push_of_some _ hol
  have hl1 : (s.heap.push (setObj led)).IsList l items := ⟨_, hol', rfl, nl, rfl⟩
  have hsls := PySem.F.sub_list_set
  have hslf := PySem.F.sub_list_frozenset
  have hne : (Value.type "list" == Value.type "dict") = false := by decide
  unfold Builtin.«set.__init__» noKeywords Builtin.Frozenset.updateFrom
  generalize ePI : pyIter = PI
  wp_walk
  subst ePI
  refine wpAny_pyIter_list hl1 (wpAny_bind (wpAny_runValue ?_))
  have below : l < s.heap.objs.size := Heap.lt_size hol
  have nh : A.in1.in1.handled = none := by simp [hh]
  have z1 : (s.heap.push (setObj led)).objs.size = s.heap.objs.size + 1 := Heap.size_push ..
  have apart : l ≠ (s.heap.push (setObj led)).objs.size := by
    rw [z1]
    exact Nat.ne_of_lt (Nat.lt_succ_of_lt below)
  have out : s.heap.objs.size ∉ [(s.heap.push (setObj led)).objs.size, l] := by
    rw [List.mem_cons, List.mem_singleton, z1]
    exact fun q => q.elim (Nat.ne_of_lt (Nat.lt_succ_self _)) (Nat.ne_of_gt below)
  have zx : xs.length = items.size := by rw [← StrsAre.len_eq hi, Array.length_toList]
  refine loopTx ((Walks.list nh _ l apart items).toS) s.heap.objs.size out xs zx (zx ▸ hx) (fun i v e => SS.strs_at hi i v (Array.getElem?_toList ▸ e)) (items.size - 0) 0 _ (by omega) (Nat.zero_le _) ?at_ ?first ?last
  case at_ => exact ⟨⟨_, Heap.get?_push_size _ rfl, rfl, rfl⟩, hl1.push _⟩
  case first =>
    refine ⟨0, Cnt.nil xs, ?_⟩
    refine SetOf_congr ((PyProof.Rows.setObjOf_fresh (knd := PySem.strKind prog w) led).setOf (Heap.get?_push_of_some _ (Heap.get?_push_size _ rfl)) (by unfold scanBound; omega)) (fun y => ?_) rfl
    rfl
  case last =>
    rintro ⟨h', g', d', tk', os'⟩ c mv hc ho
    obtain rfl : g' = s.gens := mv.gens
    obtain rfl : d' = s.drawn := mv.drawn
    obtain rfl : os' = s.os := mv.os
    refine wpAny_pure (wpAny_pure ⟨rfl, h', tk', c, rfl, zx ▸ hc, zx ▸ ho, fun q o e => ?_⟩)
    have lq := Heap.lt_size e
    refine mv.heap q o (by rw [List.mem_cons, List.mem_singleton, z1]; exact fun z => z.elim (Nat.ne_of_lt lq) (Nat.ne_of_lt (Nat.lt_succ_of_lt lq))) (Heap.get?_push_of_some _ (Heap.get?_push_of_some _ e))
set_option maxHeartbeats 8000000 in
theorem call_set_txL {l : Addr} {items : Array Value} {xs : List Str} {Q : Value → Shared → Prop} (hh : A.handled = none) (hl : s.heap.IsList l items) (hi : PyProof.Rows.StrsAre items.toList xs) (hx : xs.length + 1 < scanBound)
    (h : ∀ (h' : Heap) (tk c : Nat), Cnt xs xs.length c → h'.SetOf (PySem.strKind prog w) s.heap.objs.size (Has xs xs.length) c → (∀ q o, s.heap.get? q = some o → h'.get? q = some o) → Q (.ref s.heap.objs.size) { s with heap := h', toks := tk }) :
    wpAny (model prog w) A (call (.type "set") [.ref l]) Q E s := by
  obtain ⟨_, _, hmro⟩ := PySem.F.called_set.mro
  have hmade := PySem.F.called_set.made
  have hsub := PySem.F.called_set.sub
  have h1 := PySem.F.called_set.notType
  have h2 := PySem.F.called_set.canCreate
  have hct := PySem.F.typeCall_set_1 (.ref l)
  refine wpAny_call (codeAny_of_tree (wpAny_pure (a := _) ⟨Code.quiet_builtin _ (by decide +kernel), codeAny_builtin PySem.F.entry_type_call ?_⟩))
  rw [Around.under_plain (weight_type_call_type "set" [.ref l] []) rfl]
  repeat (any_goals (first | assumption | wp_step))
  refine codeAny_mono (code_set_new_1 (.ref l) (E := E) (Q₁ := fun v s1 => ∃ led, v = .ref s.heap.objs.size ∧ s1 = { s with heap := s.heap.push (setObj led) }) fun led => ⟨led, rfl, rfl⟩) fun r s1 hr => ?_
  match r, hr with
  | .ok (.ret v), hr =>
    obtain ⟨led, rfl, rfl⟩ := hr
    have hS : (s.heap.push (setObj led)).get? s.heap.objs.size = some (setObj led) := Heap.get?_push_size _ rfl
    have hT : Shared.TypeIs { s with heap := s.heap.push (setObj led) } (.ref s.heap.objs.size) "set" := ⟨_, hS, rfl⟩
    have hli := PySem.F.called_set.init.lookup
    have hbi := PySem.F.called_set.init.bind (.ref s.heap.objs.size)
    repeat (any_goals (first | assumption | wp_step))
    refine codeAny_mono (init_txL (E := E) (by simp [hh]) hl hi hx) fun r s2 hr => ?_
    match r, hr with
    | .ok (.ret v), hr =>
      obtain ⟨rfl, h', tk, c, rfl, hc, ho, keep⟩ := hr
      repeat (any_goals (first | assumption | wp_step))
      exact h h' tk c hc ho keep
    | .error e, hr => exact hr
    | .ok .next, hr => exact hr.elim
    | .ok .brk, hr => exact hr.elim
    | .ok .cont, hr => exact hr.elim
  | .error e, hr => exact hr
  | .ok .next, hr => exact hr.elim
  | .ok .brk, hr => exact hr.elim
  | .ok .cont, hr => exact hr.elim
end
/-- len(set(xs)), xs a tuple or a list of texts -/
def tLenSetS (K : PySem.W.Frag) (ta : TE) : TE := fun σ H Q => ta σ H fun x H1 => ∃ (l : Addr) (xs : List Str), x = .ref l ∧ (SqT K H1 l (xs.map V.str) ∨ SqL K H1 l (xs.map V.str)) ∧ xs.length < 64 ∧ ∀ c : Nat, c ≤ xs.length → (c = xs.length ↔ xs.Nodup) → Q (.int c) H1
theorem pe_lenSetS {X : Cx} {a : Expr} {ta : TE} {p p2 q pos : Pos} (K : PySem.W.Frag) (hg : Gl X "len") (hm : X.mg "len" = none) (hg2 : Gl X "set") (hm2 : X.mg "set" = none) (ha : PE X a ta) (hc : X.calm = true := by rfl)
    (na : starEach [a] X.env = (false, eval a X.env) :: starEach [] X.env := by rfl) (hK : X.K = K := by rfl) : PE X (.Call (.Name "len" p) [.Call (.Name "set" p2) [a] [] q] [] pos) (tLenSetS K ta) := by
  subst hK
  refine ⟨fun pins s σ H Q I h => Call_ (ld_blt I hg hm boot_len (PyProof.Rows.callWith_builtin1 (PyProof.Rows.args_cons (Call_ (ld_blt I hg2 hm2 boot_set (PyProof.Rows.callWith_type1 (PyProof.Rows.args_cons (thn (ha.run pins s σ H _ I h) fun v s1 ⟨x, H1, I1, r1, q1⟩ => PyProof.Rows.args_nil ?_) na) na rfl))) rfl) rfl rfl))⟩
  obtain ⟨l, xs, rfl, ht, few, q1⟩ := q1
  obtain rfl : v = Value.ref l := r1
  have fin : ∀ (h' : Heap) (tk c : Nat), Cnt xs xs.length c → h'.SetOf (PySem.strKind X.prog X.w) s1.heap.objs.size (Has xs xs.length) c → (∀ q o, s1.heap.get? q = some o → h'.get? q = some o) → wpAny (model X.prog X.w) X.A (call (.builtin "len") [.ref s1.heap.objs.size]) (EP X pins σ Q) X.xe { s1 with heap := h', toks := tk } := fun h' tk c hcn hS keep => by
    obtain ⟨o, es, ep, tb, ho, hex, hd, _, _, _, hf, hn⟩ := hS
    have I2 : Inv X pins σ H1 { s1 with heap := h', toks := tk } := I1.kept keep
    obtain ⟨c1, c2⟩ := hcn
    rw [List.take_length] at c2
    exact call_len_set ho hex hd hf (by rw [hn]; omega) ⟨.int c, H1, I2.tok _, ⟨_, by rw [hn]⟩, q1 c c1 c2⟩
  rcases ht with ht | ht
  · obtain ⟨its, rv, pl, _⟩ := I1.tuple ht
    exact call_set_tx (I1.ok.hd hc) pl (by simpa using strsAre_of rv) (by unfold scanBound; omega) fun h' tk c hcn hS keep => PyProof.Rows.args_nil (fin h' tk c hcn hS keep)
  · obtain ⟨its, rv, pl, _⟩ := I1.list ht
    exact call_set_txL (I1.ok.hd hc) pl.isList (by simpa using strsAre_of rv) (by unfold scanBound; omega) fun h' tk c hcn hS keep => PyProof.Rows.args_nil (fin h' tk c hcn hS keep)
end El

set_option Elab.async false
set_option linter.all false
set_option maxRecDepth 100000
set_option maxHeartbeats 4000000
/-! Own words: methods, and classes with keyword-only parameters, called inside a try. -/
namespace El
open PySem PySem.Spec PyProof.Rows L2
section
variable {X : Cx} {CX : CXT} {k : Nat} {C f : Addr} {fd : FuncData} {ps : List Str} {sp : Sp} {E : L2.St → XK} {o e : Expr} {es : List Expr} {m : Str} {pos apos : Pos} {ta : TE} {t : TA} {pl : Sem Bool}
/-- o.m(e, ..), what it lets out being taken where it stands -/
def tMcS (C : Addr) (m : Str) (sp : Sp) (E : L2.St → XK) (ta : TE) (t : TA) : TE := fun σ H Q => ta σ H fun x H1 => ∃ a dx fs, x = .ref a ∧ H1 a = some (.ins C dx fs) ∧ fs.lookup m = none ∧ t σ H1 fun vs H2 => sp (x :: vs) H2 Q (E σ)
theorem pe_mcS (he : PE X o ta) (c : Cls X.K C) (hm : Meth X.K C m f) (F : FnOk X.prog X.w X.K X.mg X.base CX k f fd ps sp) (hr : Room k X.A) (hb : Binds X.K fd ps []) (hx : ∀ σ, PassesAt CX X σ (E σ)) (ha : PA X (e :: es) t)
    (hst : starEach (e :: es) X.env = (false, eval e X.env) :: starEach es X.env := by rfl) (hpl : (backTo pos (starEach es X.env)).any (·.1) = false := by rfl)
    (ht : eval (.Call (.Attribute o m apos) (e :: es) [] pos) X.env = (do
      let ov ← eval o X.env
      standAt apos.atName
      let (f, first) ← holding [ov] (getMethod ov m pl)
      callWith pos f first (backTo pos (starEach (e :: es) X.env)) (backToKw pos (keywordEach [] X.env))) := by rfl) :
    PE X (.Call (.Attribute o m apos) (e :: es) [] pos) (tMcS C m sp E ta t) := by
  refine ⟨fun pins s σ H Q I h => PySem.W.methodCall_KW (pl := pl) (thn (he.run pins s σ H _ I h) fun u s1 ⟨x, H1, I1, rx, a, dx, fs, ex, ea, l, q⟩ => ?_) ht⟩
  subst ex
  cases (show u = Value.ref a from rx)
  refine getmeth_ok I1 ea c hm l (PySem.W.callWith_K (first := [.ref a]) (h₀ := X.base) I.ok.mod.kin hm.kp (thn (ha.run pos pins s1 σ H1 _ I1 q) fun us s2 ⟨vs, H2, I2, r, q2⟩ => ⟨I2.kIn, ?_⟩) hst hpl)
  exact run_fnS (us := .ref a :: us) (vs := .ref a :: vs) F hr hb (hx σ) I2 (.cons rfl r) q2
end
section
variable {X : Cx} {CX : CXT} {k n : Nat} {C f e1 e2 : Addr} {fd : FuncData} {ps ks : List Str} {sp : Sp} {E : L2.St → XK} {x k1 k2 : Str} {p pos : Pos} {e : Expr} {es : List Expr} {kws : List Keyword} {t tk : TA} {g : List Value → List Value → List Value} {gV : List V → List V → List V}
/-- C(e, .., k = v, ..), what its __init__ lets out being taken where it stands -/
def tMkKS (C : Addr) (n m : Nat) (sp : Sp) (gV : List V → List V → List V) (E : L2.St → XK) (t tk : TA) : TE := fun σ H Q => t σ H fun vs H1 => tk σ H1 fun zs H2 => vs.length = n ∧ zs.length = m ∧ ∀ x dx, H2 x = none → H2 dx = none → dx ≠ x →
  sp (gV (.ref x :: vs) zs) (upd (upd H2 dx (.own x)) x (.ins C dx [])) (fun v H3 => v = .non ∧ Q (.ref x) H3) (E σ)
theorem run_mkKS {pins : List (Addr × Obj)} {σ : L2.St} {H : Hp} {s : Shared} {Q : VK} {us ws : List Value} {vs zs : List V} {E : XK} (M : Mk X.K C f) (F : FnOk X.prog X.w X.K X.mg X.base CX k f fd ps sp) (hr : Room (k + 1) X.A) (hb : KBn X.K fd ps (n + 1) ks g gV) (hx : PassesAt CX X σ E)
    (I : Inv X pins σ H s) (r : Vals vs us) (rz : Vals zs ws) (l1 : vs.length = n) (l2 : zs.length = ks.length)
    (h : ∀ x dx, H x = none → H dx = none → dx ≠ x → sp (gV (.ref x :: vs) zs) (upd (upd H dx (.own x)) x (.ins C dx [])) (fun v H2 => v = .non ∧ Q (.ref x) H2) E) :
    wpAny (model X.prog X.w) X.A (call (.ref C) us (ks.zip ws)) (EP X pins σ Q) X.xe s := by
  have fresh := fun n hn => I.hok.fresh (a := n) hn
  have q := h (s.heap.objs.size + 1) s.heap.objs.size (fresh _ (Nat.le_succ _)) (fresh _ (Nat.le_refl _)) (Nat.ne_of_lt (Nat.lt_succ_self _))
  have J := Inv.made (C := C) I
  have rr : Vals (V.ref (s.heap.objs.size + 1) :: vs) (Value.ref (s.heap.objs.size + 1) :: us) := .cons rfl r
  have len : (Value.ref (s.heap.objs.size + 1) :: us).length = n + 1 := by rw [← rr.length, List.length_cons, l1]
  have bt := hb.to _ (Value.ref (s.heap.objs.size + 1) :: us) ws J.kIn len (rz.length.symm.trans l2)
  refine wpAny_call (make_map (f := f) I.kIn M.makes M.init (beq_iff_eq.mp M.fn) (codeAny_mono (F.run _ X.stack _ _ ⟨Value.ref (s.heap.objs.size + 1) :: us, ks.zip ws⟩ _ _ _ E (hr.make C us (ks.zip ws)) (J.env0.make C us (ks.zip ws)) bt (hb.rel rr rz) q) fun r s' hs => ?_))
  match r, hs with
  | .error e, hs => exact hx pins _ _ e s' J hs
  | .ok (.ret u), hs =>
    obtain ⟨v, H', J', rv, ev, q'⟩ := J.after hs
    subst ev
    exact ⟨rv, V.ref (s.heap.objs.size + 1), H', J', rfl, q'⟩
  | .ok .next, hs => exact False.elim hs
  | .ok .brk, hs => exact False.elim hs
  | .ok .cont, hs => exact False.elim hs
theorem pe_mkKS (M : Mk X.K C f) (F : FnOk X.prog X.w X.K X.mg X.base CX k f fd ps sp) (hr : Room (k + 1) X.A) (hg : Gl X x) (hm : X.mg x = some (.ref C)) (hb : KBn X.K fd ps (n + 1) ks g gV) (hx : ∀ σ, PassesAt CX X σ (E σ)) (ha : PA X (e :: es) t) (hkw : PK X kws tk)
    (hall : (backToKw pos (keywordEach kws X.env)).all (·.1.isSome) = true := by rfl) (hks : (backToKw pos (keywordEach kws X.env)).filterMap (·.1) = ks := by rfl) (hdb : (x == ("__debug__" : Str)) = false := by decide)
    (he : starEach (e :: es) X.env = (false, eval e X.env) :: starEach es X.env := by rfl) (hpl : ((backTo pos (starEach (e :: es) X.env)).any (·.1) || (backToKw pos (keywordEach kws X.env)).any (·.1.isNone)) = false := by rfl) :
    PE X (.Call (.Name x p) (e :: es) kws pos) (tMkKS C n ks.length sp gV E t tk) := by
  refine ⟨fun pins s σ H Q I h => wpAny_Call_Name_kw (ld_glob I hg hm (PySem.W.callWith_KW (h₀ := X.base) I.ok.mod.kin M.kp hall (thn (ha.run pos pins s σ H _ I h) fun us s1 ⟨vs, H1, I1, r, q⟩ => ?_) hpl he) hdb)⟩
  refine thn (hkw.run pos pins s1 σ H1 _ I1 q) fun ws s2 ⟨zs, H2, I2, rz, l1, l2, q2⟩ => ⟨I2.kIn, ?_⟩
  rw [hks]
  exact run_mkKS M F hr hb (hx σ) I2 r rz l1 l2 q2
theorem pe_mkAllS (c : CalK X.prog X.w X.K X.mg X.base CX k x C f fd ps (n + 1) k1 k2 e1 e2 sp) (hr : Room (k + 1) X.A) (hg : Gl X x) (hx : ∀ σ, PassesAt CX X σ (E σ)) (ha : PA X (e :: es) t) (hkw : PK X kws tk) (hdb : (x == ("__debug__" : Str)) = false := by decide)
    (he : starEach (e :: es) X.env = (false, eval e X.env) :: starEach es X.env := by rfl) (hpl : ((backTo pos (starEach (e :: es) X.env)).any (·.1) || (backToKw pos (keywordEach kws X.env)).any (·.1.isNone)) = false := by rfl) (hall : (backToKw pos (keywordEach kws X.env)).all (·.1.isSome) = true := by rfl) (hks : (backToKw pos (keywordEach kws X.env)).filterMap (·.1) = [k1, k2] := by rfl) :
    PE X (.Call (.Name x p) (e :: es) kws pos) (tMkKS C n 2 sp (fun vs zs => vs ++ zs) E t tk) := by
  obtain ⟨g, hb⟩ := c.b.all
  exact pe_mkKS c.mkc c.G hr hg c.m hb hx ha hkw hall hks hdb he hpl
end
end El

set_option Elab.async false
set_option linter.all false
set_option maxRecDepth 100000
set_option maxHeartbeats 4000000
/-! Own words: list.remove of a text. -/
namespace El
open PySem PySem.Spec PyProof.Rows L2
theorem pi_listK {X : Cx} {tg l : Expr} {tl : TE} (K : PySem.W.Frag) (hl : PE X l tl) (h : X.K = K := by rfl) : PI X tg l (iList K tl) := h ▸ pi_list hl
theorem pi_tupK {X : Cx} {tg l : Expr} {tl : TE} (K : PySem.W.Frag) (hl : PE X l tl) (h : X.K = K := by rfl) : PI X tg l (iTup K tl) := h ▸ pi_tup hl
theorem vals_at : ∀ {zs : List Str} {us : List Value}, Vals (zs.map V.str) us → ∀ (i : Nat) (h : i < us.length), ∃ t, ∃ z, zs[i]? = some z ∧ us[i] = .str z t
  | [], _, .nil, i, h => absurd h (Nat.not_lt_zero _)
  | z :: zs, _, .cons r q, i, h => by
    obtain ⟨t, rfl⟩ := r
    cases i with
    | zero => exact ⟨t, z, rfl, rfl⟩
    | succ i => exact vals_at q i (Nat.lt_of_succ_lt_succ h)
theorem erase_strs : ∀ (zs : List Str) (j : Nat), (zs.map V.str).eraseIdx j = (zs.eraseIdx j).map V.str
  | [], _ => rfl
  | _ :: _, 0 => rfl
  | z :: zs, j + 1 => congrArg (V.str z :: ·) (erase_strs zs j)
/-- xs.remove(z), xs a list of texts that has z, first at j -/
def rRemS : V → List V → Hp → VK → Prop := fun x vs H Q => ∃ (l : Addr) (zs : List Str) (z : Str) (j : Nat), x = .ref l ∧ vs = [.str z] ∧ H l = some (.lst (zs.map V.str)) ∧ zs[j]? = some z ∧ (∀ m : Nat, m < j → zs[m]? ≠ some z) ∧ Q .non (upd H l (.lst ((zs.eraseIdx j).map V.str)))
theorem mt_removeS {X : Cx} : MtM X "list.remove" rRemS := by
  intro pins s σ H x vs v us Q I rx rvs h
  obtain ⟨l, zs, z, j, rfl, rfl, hl, hj, no, q⟩ := h
  cases rx
  obtain ⟨u, rfl, t, rfl⟩ := rvs.one
  obtain ⟨sz, its, n, r, len, e⟩ := I.lstM hl
  have lens : its.length = zs.length := by rw [← r.length, List.length_map]
  have jz : j < zs.length := (List.getElem?_eq_some_iff.mp hj).1
  have eqs : ∀ (i : Nat) (h : i < its.length), MeetsSeq.EqGives its[i] (.str z t) (decide (zs[i]? = some z)) := fun i h => by
    obtain ⟨t2, y, e1, e2⟩ := vals_at r i h
    rw [e2, e1]
    have k : MeetsSeq.EqGives (.str y t2) (.str z t) (decide (y = z)) := fun _ _ _ _ _ _ h => wpAny_eqBool_str h
    have e3 : decide (y = z) = decide (some y = some z) := by
      rw [Bool.eq_iff_iff, decide_eq_true_iff, decide_eq_true_iff, Option.some.injEq]
    rw [e3] at k
    exact k
  let f : Value → Bool := fun y => match y with
    | .str y _ => decide (y = z)
    | _ => false
  have fe : ∀ (i : Nat) (h : i < its.length), f its[i] = decide (zs[i]? = some z) := fun i h => by
    obtain ⟨t2, y, e1, e2⟩ := vals_at r i h
    rw [e2, e1]
    show decide (y = z) = decide (some y = some z)
    rw [Bool.eq_iff_iff, decide_eq_true_iff, decide_eq_true_iff, Option.some.injEq]
  refine call_meets PySem.F.slot_list_remove ⟨_, e, rfl⟩ PySem.F.entry_list_remove (PySem.F.args_list_remove_2 _ _)
    (MeetsSeq.list_remove l its.toArray n (.str z t) f (fun y hy => ?_) j (by rw [List.size_toArray]; omega) ?_ (fun m hm mj => ?_) (by rw [List.size_toArray]; rw [List.length_map] at sz len; omega)) ⟨e, .non, _, I.lset (its' := its.eraseIdx j) (t' := s.toks) hl e ?_ (erase_strs zs j ▸ r.eraseIdx j) ?_, rfl, q⟩
  · obtain ⟨i, hi, rfl⟩ := List.getElem_of_mem (show y ∈ its by simpa using hy)
    rw [fe i hi]
    exact eqs i hi
  · have z1 := fe j (by omega)
    simpa [hj] using z1
  · have z1 := fe m (by omega)
    simpa [no m mj] using z1
  · show its.toArray.eraseIdxIfInBounds j = (its.eraseIdx j).toArray
    rw [List.eraseIdxIfInBounds_toArray]
  · have := len_erase zs j
    rw [List.length_map] at *
    omega
end El

set_option Elab.async false
set_option linter.all false
set_option maxRecDepth 100000
set_option maxHeartbeats 4000000
namespace K30
open PySem PySem.Spec PyProof.Rows L2 El NdefX
def topS (i : Nat) : Stmt := PySem.Challenge.pw_elseput_k30_whole_pairs_and_waste.main.body.getD i (.Pass ⟨0, 0, 0, 0⟩)
abbrev s_is_name : Stmt := topS 13
theorem sc_is_name : FnScope ["text", "letter"] ["text"] (defScope s_is_name) := ⟨rfl, rfl, rfl, by decide +kernel, rfl, by decide +kernel, by decide +kernel⟩

abbrev s_check_name : Stmt := topS 18
theorem sc_check_name : FnScope ["text"] ["text"] (defScope s_check_name) := ⟨rfl, rfl, rfl, by decide +kernel, rfl, by decide +kernel, by decide +kernel⟩

abbrev s_looked_at : Stmt := topS 24
theorem sc_looked_at : FnScope ["steps", "deed", "key"] ["steps"] (defScope s_looked_at) := ⟨rfl, rfl, rfl, by decide +kernel, rfl, by decide +kernel, by decide +kernel⟩

abbrev s_steps_fit : Stmt := topS 25
theorem sc_steps_fit : FnScope ["steps", "at"] ["steps"] (defScope s_steps_fit) := ⟨rfl, rfl, rfl, by decide +kernel, rfl, by decide +kernel, by decide +kernel⟩

abbrev s_step_fits : Stmt := topS 26
theorem sc_step_fits : FnScope ["steps", "at", "deed", "key"] ["steps", "at"] (defScope s_step_fits) := ⟨rfl, rfl, rfl, by decide +kernel, rfl, by decide +kernel, by decide +kernel⟩

abbrev s_keys_fit : Stmt := topS 27
theorem sc_keys_fit : FnScope ["steps", "names", "name"] ["steps", "names"] (defScope s_keys_fit) := ⟨rfl, rfl, rfl, by decide +kernel, rfl, by decide +kernel, by decide +kernel⟩

abbrev s__law_state : Stmt := topS 32
theorem sc__law_state : FnScope ["_law_script"] ["_law_script"] (defScope s__law_state) := ⟨rfl, rfl, rfl, by decide +kernel, rfl, by decide +kernel, by decide +kernel⟩

abbrev s__law_draw : Stmt := topS 33
theorem sc__law_draw : FnScope ["_law_state_here", "_law_many", "_law_first", "_law_second", "_law_third", "_law_digit"] ["_law_state_here", "_law_many"] (defScope s__law_draw) := ⟨rfl, rfl, rfl, by decide +kernel, rfl, by decide +kernel, by decide +kernel⟩

abbrev s__law_mixed : Stmt := topS 34
theorem sc__law_mixed : FnScope ["_law_state_here", "_law_row", "_law_rest", "_law_result", "_law_k", "_law_at"] ["_law_state_here", "_law_row"] (defScope s__law_mixed) := ⟨rfl, rfl, rfl, by decide +kernel, rfl, by decide +kernel, by decide +kernel⟩

abbrev s__law_names : Stmt := topS 35
theorem sc__law_names : FnScope ["_law_state_here", "_law_many", "_law_letters", "_law_style", "_law_shift", "_law_code", "_law_spot", "_law_base", "_law_k", "_law_reserved", "_law_result", "_law_word"] ["_law_state_here", "_law_many"] (defScope s__law_names) := ⟨rfl, rfl, rfl, by decide +kernel, rfl, by decide +kernel, by decide +kernel⟩

abbrev s__law_is_int : Stmt := topS 36
theorem sc__law_is_int : FnScope ["_law_thing"] ["_law_thing"] (defScope s__law_is_int) := ⟨rfl, rfl, rfl, by decide +kernel, rfl, by decide +kernel, by decide +kernel⟩

abbrev s__law_same : Stmt := topS 37
theorem sc__law_same : FnScope ["_law_actual", "_law_due", "_law_k", "_law_key"] ["_law_actual", "_law_due"] (defScope s__law_same) := ⟨rfl, rfl, rfl, by decide +kernel, rfl, by decide +kernel, by decide +kernel⟩

abbrev s__law_wild_steps : Stmt := topS 38
theorem sc__law_wild_steps : FnScope ["_law_state_here", "_law_carried", "_law_steps_here", "_law_early", "_law_key", "_law_late", "_law_style"] ["_law_state_here", "_law_carried"] (defScope s__law_wild_steps) := ⟨rfl, rfl, rfl, by decide +kernel, rfl, by decide +kernel, by decide +kernel⟩

abbrev s__law_safe_steps : Stmt := topS 39
theorem sc__law_safe_steps : FnScope ["_law_carried", "_law_rank", "_law_ahead", "_law_steps_here", "_law_done", "_law_key", "_law_other"] ["_law_carried", "_law_rank", "_law_ahead"] (defScope s__law_safe_steps) := ⟨rfl, rfl, rfl, by decide +kernel, rfl, by decide +kernel, by decide +kernel⟩

abbrev s__law_some : Stmt := topS 40
theorem sc__law_some : FnScope ["_law_state_here", "_law_row", "_law_share", "_law_item"] ["_law_state_here", "_law_row", "_law_share"] (defScope s__law_some) := ⟨rfl, rfl, rfl, by decide +kernel, rfl, by decide +kernel, by decide +kernel⟩

abbrev s__law_walk : Stmt := topS 41
theorem sc__law_walk : FnScope ["_law_steps_here", "_law_hand", "_law_pairs", "_law_waste", "_law_k", "_law_deed", "_law_key", "_law_first", "_law_later", "_law_step", "_law_one"] ["_law_steps_here"] (defScope s__law_walk) := ⟨rfl, rfl, rfl, by decide +kernel, rfl, by decide +kernel, by decide +kernel⟩

abbrev s__law_steps : Stmt := topS 42
theorem sc__law_steps : FnScope ["_law_state_here", "_law_carried"] ["_law_state_here", "_law_carried"] (defScope s__law_steps) := ⟨rfl, rfl, rfl, by decide +kernel, rfl, by decide +kernel, by decide +kernel⟩

abbrev s_law : Stmt := topS 43
theorem sc_law : FnScope ["_law_script", "_law_state_here", "_law_names_here", "_law_rows", "_law_plans", "_law_k", "_law_carried", "_law_steps_here", "_law_plan", "_law_told", "_law_pairs", "_law_waste"] ["_law_script"] (defScope s_law) := ⟨rfl, rfl, rfl, by decide +kernel, rfl, by decide +kernel, by decide +kernel⟩

abbrev s_Plan___init__ : Stmt := mthS (topS 23) 0
theorem sc_Plan___init__ : FnScope ["self", "steps", "locked", "kept", "key", "deed", "_"] ["self", "steps", "locked", "kept"] (defScope s_Plan___init__) := ⟨rfl, rfl, rfl, by decide +kernel, rfl, by decide +kernel, by decide +kernel⟩

abbrev s_Plan_waste : Stmt := mthS (topS 23) 2
theorem sc_Plan_waste : FnScope ["self", "looked", "earlier", "later", "at", "key"] ["self"] (defScope s_Plan_waste) := ⟨rfl, rfl, rfl, by decide +kernel, rfl, by decide +kernel, by decide +kernel⟩

abbrev s_Plan_pairs : Stmt := mthS (topS 23) 9
theorem sc_Plan_pairs : FnScope ["self", "taken", "second", "first", "deed", "key"] ["self"] (defScope s_Plan_pairs) := ⟨rfl, rfl, rfl, by decide +kernel, rfl, by decide +kernel, by decide +kernel⟩

abbrev s_Plan__holds : Stmt := mthS (topS 23) 13
theorem sc_Plan__holds : FnScope ["self", "key", "step", "made"] ["self", "key", "step"] (defScope s_Plan__holds) := ⟨rfl, rfl, rfl, by decide +kernel, rfl, by decide +kernel, by decide +kernel⟩

abbrev s_Plan__place : Stmt := mthS (topS 23) 14
theorem sc_Plan__place : FnScope ["self", "step", "at", "other"] ["self", "step"] (defScope s_Plan__place) := ⟨rfl, rfl, rfl, by decide +kernel, rfl, by decide +kernel, by decide +kernel⟩

abbrev s_BadName : Stmt := mthS (topS 3) 0
theorem sc_BadName : NdefX.NScope ["self", "name", "__class__"] ["self", "name"] ["__class__"] (defScope s_BadName) := NdefX.nscope_by (by decide +kernel)
abbrev s_BadText : Stmt := mthS (topS 4) 0
theorem sc_BadText : NdefX.NScope ["self", "line", "column", "__class__"] ["self", "line", "column"] ["__class__"] (defScope s_BadText) := NdefX.nscope_by (by decide +kernel)
abbrev s_BadPlan : Stmt := mthS (topS 5) 0
theorem sc_BadPlan : NdefX.NScope ["self", "__class__"] ["self"] ["__class__"] (defScope s_BadPlan) := NdefX.nscope_by (by decide +kernel)
section
variable {P : Program} {w : World} {K : PySem.W.Frag} {mg : Str → Option Value} {base : Heap}
variable {t_LETTERS t_LONGEST_NAME : Tok} {a_DEEDS a_RESERVED a_BadName a_BadPlan a_Plan : Addr}
structure Gs (K : PySem.W.Frag) (mg : Str → Option Value) (t_LETTERS t_LONGEST_NAME : Tok) (a_DEEDS a_RESERVED a_BadName a_BadPlan a_Plan : Addr) : Prop where
  z_all : mg "all" = none
  z_bool : mg "bool" = none
  z_dict : mg "dict" = none
  z_enumerate : mg "enumerate" = none
  z_int : mg "int" = none
  z_isinstance : mg "isinstance" = none
  z_len : mg "len" = none
  z_list : mg "list" = none
  z_property : mg "property" = none
  z_range : mg "range" = none
  z_set : mg "set" = none
  z_str : mg "str" = none
  z_super : mg "super" = none
  z_tuple : mg "tuple" = none
  g_LETTERS : mg "LETTERS" = some (.str "abcdefghijklmnopqrstuvwxyz" t_LETTERS)
  g_LONGEST_NAME : mg "LONGEST_NAME" = some (.int 12 t_LONGEST_NAME)
  g_DEEDS : mg "DEEDS" = some (.ref a_DEEDS)
  q_DEEDS : ∀ H, SqT K H a_DEEDS [(.str "take"), (.str "look"), (.str "free")]
  g_RESERVED : mg "RESERVED" = some (.ref a_RESERVED)
  q_RESERVED : ∀ H, SqT K H a_RESERVED [(.str "always"), (.str "never"), (.str "and"), (.str "or"), (.str "not"), (.str "when"), (.str "add"), (.str "set"), (.str "change"), (.str "tell"), (.str "refuse"), (.str "take"), (.str "look"), (.str "free"), (.str "lock"), (.str "keep"), (.str "keys"), (.str "fields")]
  g_BadName : mg "BadName" = some (.ref a_BadName)
  n_BadName : PySem.W.nsIn K mainGlobals "BadName" = some (some (.ref a_BadName))
  x_BadName : ExV K a_BadName ["name"]
  g_BadPlan : mg "BadPlan" = some (.ref a_BadPlan)
  n_BadPlan : PySem.W.nsIn K mainGlobals "BadPlan" = some (some (.ref a_BadPlan))
  x_BadPlan : ExV K a_BadPlan []
  g_Plan : mg "Plan" = some (.ref a_Plan)
  n_Plan : PySem.W.nsIn K mainGlobals "Plan" = some (some (.ref a_Plan))
  cl_Plan : Cls K a_Plan
  na_Plan_kept : NoAttr K a_Plan "kept"
  na_Plan_locked : NoAttr K a_Plan "locked"
  na_Plan_steps : NoAttr K a_Plan "steps"
  rd_Plan : ClX.CRead K a_Plan (.type "type")
/-! ### the script's state -/
def stv (scr : Addr) (i v m c : Int) : List V := [.ref scr, .int i, .int v, .int m, .int c]
def DrAt (H : Hp) (st scr : Addr) : Prop := ∃ (ns : List Int) (i v m c : Int), H st = some (.lst (stv scr i v m c)) ∧ H scr = some (.lst (ns.map V.int)) ∧ ns.length ≤ 63 ∧ 0 ≤ i
theorem DrAt.ne {H : Hp} {st scr : Addr} {ns : List Int} {i v m c : Int} (h : H st = some (.lst (stv scr i v m c))) (h2 : H scr = some (.lst (ns.map V.int))) : scr ≠ st := by
  refine ne_of h2 h fun e => ?_
  injection e with e
  cases ns with
  | nil => simp [stv] at e
  | cons a r => simp [stv] at e
theorem DrAt.upd {H : Hp} {st scr : Addr} {ns : List Int} {i v m c i' v' m' c' : Int} (h : H st = some (.lst (stv scr i v m c))) (h2 : H scr = some (.lst (ns.map V.int))) (hl : ns.length ≤ 63) (h0 : 0 ≤ i') : DrAt (upd H st (.lst (stv scr i' v' m' c'))) st scr :=
  ⟨ns, i', v', m', c', upd_same, by rw [upd_ne (DrAt.ne h h2)]; exact h2, hl, h0⟩
theorem upd_id {H : Hp} {a : Addr} {o : HO} (h : H a = some o) : upd H a o = H := by
  funext b
  unfold L2.upd
  split
  · rename_i e; rw [e, h]
  · rfl
theorem DrAt.lst {H : Hp} {st scr : Addr} (h : DrAt H st scr) : ∃ l, H st = some (.lst l) := by
  obtain ⟨ns, i, v, m, c, h, _⟩ := h
  exact ⟨_, h⟩
theorem DrAt.new {H H' : Hp} {st scr : Addr} (h : DrAt H st scr) (s : Same H H') : DrAt H' st scr := by
  obtain ⟨ns, i, v, m, c, h1, h2, h3⟩ := h
  exact ⟨ns, i, v, m, c, s _ _ h1, s _ _ h2, h3⟩
theorem DrAt.at {H : Hp} {st scr p : Addr} {o : HO} (h : DrAt H st scr) (h1 : p ≠ st) (h2 : p ≠ scr) : DrAt (L2.upd H p o) st scr := by
  obtain ⟨ns, i, v, m, c, e1, e2, h3⟩ := h
  exact ⟨ns, i, v, m, c, by rw [upd_ne h1.symm]; exact e1, by rw [upd_ne h2.symm]; exact e2, h3⟩
theorem same_new {H : Hp} {p : Addr} {o : HO} (h : H p = none) : Same H (upd H p o) := fun b u q => by rw [upd_ne (ne_of_none q h)]; exact q
theorem free_new {H : Hp} {p q : Addr} {o : HO} (h : upd H p o q = none) : H q = none := by
  unfold L2.upd at h
  split at h
  · cases h
  · exact h
theorem new_ne {H : Hp} {p q : Addr} {o : HO} (h : upd H p o q = none) : q ≠ p := fun e => by rw [e, upd_same] at h; cases h
theorem len_add (a b : Str) : (a ++ b).length = a.length + b.length := by
  show (a.cps ++ b.cps).size = _
  rw [Array.size_append]
  rfl
theorem cps_add (a b : Str) : (a ++ b).cps.toList = a.cps.toList ++ b.cps.toList := by
  show (a.cps ++ b.cps).toList = _
  rw [Array.toList_append]
theorem len_cps (z : Str) : z.cps.toList.length = z.length := Array.length_toList
theorem line_of {n : Nat} (h : n ≤ 100000) : n ≤ sizeLine := Nat.le_trans h (by decide)
theorem line_lt {n : Nat} (h : n < 100000) : n < sizeLine := Nat.lt_of_lt_of_le h (by decide)
/-- all that stood stands, st's own numbers aside -/
def Bt (st : Addr) (H H' : Hp) : Prop := ∀ b o, b ≠ st → H b = some o → H' b = some o
theorem Bt.refl (st : Addr) (H : Hp) : Bt st H H := fun _ _ _ h => h
theorem Bt.trans {st : Addr} {H H1 H2 : Hp} (a : Bt st H H1) (b : Bt st H1 H2) : Bt st H H2 := fun c o n h => b c o n (a c o n h)
theorem Bt.same {st : Addr} {H H' : Hp} (s : Same H H') : Bt st H H' := fun b o _ h => s b o h
theorem Bt.st {st : Addr} {H : Hp} {o : HO} : Bt st H (upd H st o) := fun b u n h => by rw [upd_ne n]; exact h
theorem Bt.free {st : Addr} {H H' : Hp} (s : Bt st H H') {l : Addr} (n : l ≠ st) (h : H' l = none) : H l = none := by
  cases q : H l with
  | none => rfl
  | some o => rw [s l o n q] at h; cases h
theorem DrAt.ne_new {H : Hp} {st scr p : Addr} (h : DrAt H st scr) (n : H p = none) : p ≠ st := by
  obtain ⟨l, e⟩ := h.lst
  exact (ne_of_none e n).symm

theorem DrAt.ne_scr {H : Hp} {st scr p : Addr} (h : DrAt H st scr) (n : H p = none) : p ≠ scr := by
  obtain ⟨ns, i, v, m, c, e1, e2, h3⟩ := h
  exact (ne_of_none e2 n).symm

/-! ### is_name -/
abbrev letters : Str := "abcdefghijklmnopqrstuvwxyz"
abbrev resv : List V := [.str "always", .str "never", .str "and", .str "or", .str "not", .str "when", .str "add", .str "set", .str "change", .str "tell", .str "refuse", .str "take", .str "look", .str "free", .str "lock", .str "keep", .str "keys", .str "fields"]
def isName (z : Str) : Bool := if (decide ((z.length : Int) < 1) || decide ((12 : Int) < z.length) || inV (.str z) resv) = true then false else z.cps.toList.all fun c => decide (c ∈ letters.cps.toList)
def sp_is_name (K : PySem.W.Frag) : Sp := fun vs H Q _ => ∃ z : Str, vs = [.str z] ∧ z.length ≤ 1000 ∧ ∀ H', Same H H' → Q (.bl (isName z)) H'
theorem len_is_name {vs : List V} {H : Hp} {Q : VK} {E : XK} (h : sp_is_name K vs H Q E) : vs.length = 1 := by
  obtain ⟨_, rfl, _⟩ := h
  rfl
theorem ok_is_name {f : Addr} {fd : FuncData} (F : Fun K "is_name" "is_name" s_is_name f fd) (T : Gs K mg t_LETTERS t_LONGEST_NAME a_DEEDS a_RESERVED a_BadName a_BadPlan a_Plan) : FnOk P w K mg base CX0 1 f fd ["text"] (sp_is_name K) := by
  refine F.ok sc_is_name (fun vs H Q E h => len_is_name h) (fun cdv A outer s H vs Q E hr h => ?_)
  obtain ⟨z, rfl, h0, q⟩ := h
  refine ⟨_, (pss_cons (ps_if (PW.pt (pw_or (pt_c op_ltM (pe_callB (lenK K) (by rfl) T.z_len PySem.boot_len (pa_cons (v_ 0) pa_nil)) pe_int) (pw_or (pt_c op_gtM (pe_callB (lenK K) (by rfl) T.z_len PySem.boot_len (pa_cons (v_ 0) pa_nil)) (pe_glob (v := .int 12) rfl T.g_LONGEST_NAME ⟨_, rfl⟩)) (pw_or1 (pt_c (inK K) (v_ 0) (pe_glob (v := .ref a_RESERVED) rfl T.g_RESERVED rfl)))))) (pss_one (ps_ret pe_bl)) pss_nil) (pss_one (ps_ret (pe_callB (allK K rfl) (by rfl) T.z_all (by decide +kernel) (pa_cons (pe_lc (own := [("letter", 1)]) (g := gName 1) (by rfl) sc_is_name.nd (pi_str (v_ 0)) (blkOk_by (N := ["text", "letter"]) (sc := defScope s_is_name) (by decide +kernel)) (fun _ _ _ _ _ => pg_name (i := 1) sc_is_name.nd rfl (Or.inl rfl)) (fun _ _ _ _ _ => pts_nil) (fun _ _ _ _ _ => (pe_c (inK K) (v_ 1) (pe_glob (v := .str "abcdefghijklmnopqrstuvwxyz") rfl T.g_LETTERS ⟨_, rfl⟩)))) pa_nil))))), ?_⟩
  refine ⟨line_of (by omega), ?_⟩
  have no : ∀ c : Bool, (decide ((z.length : Int) < 1) || decide ((12 : Int) < z.length) || inV (.str z) resv) = c → isName z = if c = true then false else z.cps.toList.all fun c => decide (c ∈ letters.cps.toList) := fun c e => by
    rw [← e]; rfl
  refine ite2 (fun e => ?_) (fun e => ?_)
  · have := q H (Same.refl H)
    rw [no true (by rw [show decide ((z.length : Int) < 1) = true from e]; rfl)] at this
    exact this
  refine ⟨line_of (by omega), ?_⟩
  refine ite2 (fun e1 => ?_) (fun e1 => ?_)
  · have := q H (Same.refl H)
    rw [no true (by rw [show decide ((12 : Int) < z.length) = true from e1, Bool.or_true]; rfl)] at this
    exact this
  refine ⟨_, .inr (T.q_RESERVED _), rfl, rfl, ?_⟩
  refine ite2 (fun e2 => ?_) (fun e2 => ?_)
  · have := q H (Same.refl H)
    rw [no true (by rw [show inV (.str z) resv = true from e2, Bool.or_true])] at this
    exact this
  have en : isName z = z.cps.toList.all fun c => decide (c ∈ letters.cps.toList) := by
    rw [no false (by rw [show decide ((z.length : Int) < 1) = false from Bool.eq_false_iff.mpr e, show decide ((12 : Int) < z.length) = false from Bool.eq_false_iff.mpr e1, show inV (.str z) resv = false from Bool.eq_false_iff.mpr e2]; rfl)]
    rfl
  refine ⟨z, rfl, fun D nD => lc_it walk_str (fun i H' => H' = upd H D (.lst (((z.cps.toList.take i).map fun c => decide (c ∈ letters.cps.toList)).map V.bl))) rfl (fun _ _ _ _ => True.intro) ?_ ?_⟩
  · rintro i x H1 H2 hi rfl ⟨rfl, c, hc, rfl⟩
    refine ⟨rfl, ?_⟩
    refine ⟨c, rfl, _, upd_same, ?_, ?_⟩
    · rw [List.length_map, List.length_map, List.length_take]
      have : z.cps.size = z.length := rfl
      exact small1000 (by omega)
    · rw [upd_upd]
      have e : z.cps.toList.take (i + 1) = z.cps.toList.take i ++ [c] := by
        rw [List.take_add_one, Array.getElem?_toList, hc]
        rfl
      rw [e, List.map_append, List.map_append]
      rfl
  · rintro H1 rfl
    rw [show z.cps.size = z.cps.toList.length from (Array.length_toList).symm, List.take_length]
    refine ⟨_, _, rfl, SqL.of upd_same, ?_⟩
    have := q _ (same_new nD (o := .lst ((z.cps.toList.map fun c => decide (c ∈ letters.cps.toList)).map V.bl)))
    rw [en] at this
    rw [List.all_map]
    exact this
end
section
variable {P : Program} {w : World} {K : PySem.W.Frag} {mg : Str → Option Value} {base : Heap}
variable {t_LETTERS t_LONGEST_NAME : Tok} {a_DEEDS a_RESERVED a_BadName a_BadPlan a_Plan : Addr}
/-! ### checks -/
theorem isName_mem {z : Str} (h : isName z = true) : (∀ c ∈ z.cps.toList, c ∈ letters.cps.toList) ∧ 1 ≤ z.length ∧ z.length ≤ 12 ∧ inV (.str z) resv = false := by
  unfold isName at h
  split at h
  · exact absurd h (by decide)
  · rename_i hc
    rw [Bool.not_eq_true, Bool.or_eq_false_iff, Bool.or_eq_false_iff, decide_eq_false_iff_not, decide_eq_false_iff_not] at hc
    exact ⟨fun c hm => of_decide_eq_true (List.all_eq_true.mp h c hm), by omega, by omega, hc.2⟩
theorem letters_small : ∀ c ∈ letters.cps.toList, c < 16 ^ 8 := by decide +kernel
theorem isName_asc {z : Str} (h : isName z = true) : Asc z := fun c hc => letters_small c ((isName_mem h).1 c hc)
def BadN (K : PySem.W.Frag) (H : Hp) (z : Str) (E : XK) : Prop := ∀ (C d : Addr) (H' : Hp), PySem.W.nsIn K mainGlobals "BadName" = some (some (.ref C)) → Same H H' → H d = none → H' d = some (.xd [("name", .str z)]) → E (.ref C) (some d) H'
theorem BadN.same {K : PySem.W.Frag} {H H1 : Hp} {z : Str} {E : XK} (h : BadN K H z E) (s : Same H H1) : BadN K H1 z E := fun C d H' hC s2 nd hd => h C d H' hC (s.trans s2) (Same.free s nd) hd
def okx_BadName (ws : List V) : Prop := ∃ z : Str, ws = [.str z] ∧ z.length ≤ 1000 ∧ Asc z
def fs_BadName (ws : List V) : List (Str × V) := match ws with | [l] => [("name", l)] | _ => []
theorem len_spE {C : Addr} {ok : List V → Prop} {fs : List V → List (Str × V)} {n : Nat} (hn : ∀ ws, ok ws → ws.length = n) {vs : List V} {H : Hp} {Q : VK} {E : XK} (h : spE C ok fs vs H Q E) : vs.length = n + 1 := by
  obtain ⟨a, ws, rfl, h, _⟩ := h
  rw [List.length_cons, hn _ h]
theorem log_200 {i : Int} (h : i.natAbs < 2 ^ 200) : i.natAbs.log2 < 1920 := by
  by_cases hz : i.natAbs = 0
  · rw [hz]
    decide
  · exact (Nat.log2_lt hz).mpr (Nat.lt_of_lt_of_le h (Nat.pow_le_pow_right (by decide) (by decide)))
theorem ok_BadName {C f cc cda : Addr} {doc pm ct oc ccl cl : Value} {od cdd cld : Option Addr} {osl ccs csl : Array (Option Value)} {vs0 : Array Value} {file : Str} {tf : Tok} {cdD : ClassData}
    (X : ExK K C f ["name"]) (lk : K.lookup f = some ⟨oc, od, .func (PySem.W.fnX "__init__" "BadName.__init__" (defArgs s_BadName) (defBody s_BadName) (defScope s_BadName) [("__class__", cc)] .none .none doc pm none (.ref cda) ct), osl⟩)
    (hcd : PySem.W.codeIn K (.ref cda) "BadName.__init__" = true) (hcode : K.lookup cda = some ⟨ccl, cdd, .fields vs0, ccs⟩) (hvs : vs0[2]? = some (.str file tf)) (hfile : ((P.main.file : Str) == file) = true)
    (hcell : K.lookup cc = some ⟨cl, cld, .cell (some (.ref C)), csl⟩) (hD : PySem.W.clsIn K C = some cdD) (hsuper : mg "super" = none) (hop : PySem.W.nsIn K PySem.cStatics "thirdparty.any" = some none) (htop : (P.main.scope.names.lookup ("super" : Str)).isSome = false) :
    FnOk P w K mg base CX0 1 f (PySem.W.fnX "__init__" "BadName.__init__" (defArgs s_BadName) (defBody s_BadName) (defScope s_BadName) [("__class__", cc)] .none .none doc pm none (.ref cda) ct) ["self", "name"] (spE C okx_BadName fs_BadName) := by
  refine fn_super lk hcd sc_BadName hcode hvs hfile hcell hD hsuper hop rfl rfl rfl htop rfl (fun vs H Q E h => len_spE (n := 1) (fun ws h => by obtain ⟨_, rfl, _⟩ := h; rfl) h) (fun A outer s H vs Q E hr h => ?_) (fun _ => rfl) (fun _ => rfl) (fun _ => rfl)
  obtain ⟨a, ws, rfl, ⟨l, rfl, l0, l1⟩, ea, q⟩ := h
  refine ⟨a, C, _, _, rfl, ea, X.oex, X.mro, X.sup, X.subV, pa_cons (pe_joined (.cons pe_str (.cons (pe_fmtR (v_ 1)) .nil))) pa_nil, pss_one (ps_ost (v_ 0) (v_ 1)), ?_⟩
  have tl := repr_le l1 l0
  have z0 : Str.empty.length = 0 := rfl
  have z1 : (Str.ofString "not a name: ").length = 12 := rfl
  refine ⟨_, rfl, line_of (by rw [len_add]; omega), .inl ⟨_, rfl, line_of (by omega), _, rfl, line_of (by rw [len_add, len_add]; omega), ?_⟩⟩
  refine ⟨ea, (by show 1 ≤ 1000; decide), ?_⟩
  exact ⟨a, C, rfl, X.oex, X.no _ (by simp), .inl ⟨ea, ost1 ea fun dx H' n ne e1 e2 hh => q dx _ n ne e1 e2 hh⟩⟩
theorem ok_BadPlan {C f cc cda : Addr} {doc pm ct oc ccl cl : Value} {od cdd cld : Option Addr} {osl ccs csl : Array (Option Value)} {vs0 : Array Value} {file : Str} {tf : Tok} {cdD : ClassData}
    (X : ExK K C f []) (lk : K.lookup f = some ⟨oc, od, .func (PySem.W.fnX "__init__" "BadPlan.__init__" (defArgs s_BadPlan) (defBody s_BadPlan) (defScope s_BadPlan) [("__class__", cc)] .none .none doc pm none (.ref cda) ct), osl⟩)
    (hcd : PySem.W.codeIn K (.ref cda) "BadPlan.__init__" = true) (hcode : K.lookup cda = some ⟨ccl, cdd, .fields vs0, ccs⟩) (hvs : vs0[2]? = some (.str file tf)) (hfile : ((P.main.file : Str) == file) = true)
    (hcell : K.lookup cc = some ⟨cl, cld, .cell (some (.ref C)), csl⟩) (hD : PySem.W.clsIn K C = some cdD) (hsuper : mg "super" = none) (hop : PySem.W.nsIn K PySem.cStatics "thirdparty.any" = some none) (htop : (P.main.scope.names.lookup ("super" : Str)).isSome = false) :
    FnOk P w K mg base CX0 1 f (PySem.W.fnX "__init__" "BadPlan.__init__" (defArgs s_BadPlan) (defBody s_BadPlan) (defScope s_BadPlan) [("__class__", cc)] .none .none doc pm none (.ref cda) ct) ["self"] (spE0 C) := by
  refine fn_super lk hcd sc_BadPlan hcode hvs hfile hcell hD hsuper hop rfl rfl rfl htop rfl (fun vs H Q E h => by obtain ⟨_, rfl, _⟩ := h; rfl) (fun A outer s H vs Q E hr h => ?_) (fun _ => rfl) (fun _ => rfl) (fun _ => rfl)
  obtain ⟨a, rfl, ea, q⟩ := h
  exact ⟨a, C, _, _, rfl, ea, X.oex, X.mro, X.sup, X.subV, pa_cons pe_str pa_nil, pss_nil, ea, (by show 1 ≤ 1000; decide), q⟩
def BadP (K : PySem.W.Frag) (H : Hp) (E : XK) : Prop := ∀ (B : Addr) (H' : Hp), PySem.W.nsIn K mainGlobals "BadPlan" = some (some (.ref B)) → Same H H' → E (.ref B) none H'
end
section
variable {P : Program} {w : World} {K : PySem.W.Frag} {mg : Str → Option Value} {base : Heap}
variable {t_LETTERS t_LONGEST_NAME : Tok} {a_DEEDS a_RESERVED a_BadName a_BadPlan a_Plan : Addr}
theorem inV_str {z : Str} : ∀ {xs : List Str}, inV (.str z) (xs.map V.str) = decide (z ∈ xs)
  | [] => rfl
  | a :: r => by
    have ih := inV_str (z := z) (xs := r)
    unfold inV at ih ⊢
    rw [List.map_cons, List.any_cons, ih]
    have : eqV (.str a) (.str z) = decide (z = a) := by
      show (a == z) = _
      rw [Bool.eq_iff_iff, beq_iff_eq, decide_eq_true_iff, eq_comm]
    rw [this, Bool.eq_iff_iff, Bool.or_eq_true, decide_eq_true_iff, decide_eq_true_iff, decide_eq_true_iff, List.mem_cons]
theorem flat_strs {xs : List Str} : (xs.map V.str).all flatV = true := by
  rw [List.all_map]
  exact List.all_eq_true.mpr fun _ _ => rfl
def sp__law_draw (K : PySem.W.Frag) : Sp := fun vs H Q _ => ∃ (st scr : Addr) (many : Int), vs = [.ref st, .int many] ∧ DrAt H st scr ∧ 0 < many ∧ many.natAbs < 2 ^ 200 ∧
  ∀ (r : Int) (l : List V), 0 ≤ r → r < many → DrAt (upd H st (.lst l)) st scr → Q (.int r) (upd H st (.lst l))
theorem len__law_draw {vs : List V} {H : Hp} {Q : VK} {E : XK} (h : sp__law_draw K vs H Q E) : vs.length = 2 := by
  obtain ⟨_, _, _, rfl, _⟩ := h
  rfl
theorem ok__law_draw {f : Addr} {fd : FuncData} (F : Fun K "_law_draw" "_law_draw" s__law_draw f fd) (T : Gs K mg t_LETTERS t_LONGEST_NAME a_DEEDS a_RESERVED a_BadName a_BadPlan a_Plan) : FnOk P w K mg base CX0 1 f fd ["_law_state_here", "_law_many"] (sp__law_draw K) := by
  refine F.ok sc__law_draw (fun vs H Q E h => len__law_draw h) (fun cdv A outer s H vs Q E hr h => ?_)
  obtain ⟨st, scr, many, rfl, ⟨ns, i, v, m, c, hst, hscr, hl, h0⟩, hm0, hm1, q⟩ := h
  have hne := DrAt.ne hst hscr
  refine ⟨_, (Evl.pss_cut (ps_if (pt_c (eqK K hr.units) (e_x K (v_ 0) pe_int) pe_int) (pss_cons (ps_if (pt_c op_geM (e_x K (v_ 0) pe_int) (pe_callB (lenK K) (by rfl) T.z_len PySem.boot_len (pa_cons (e_x K (v_ 0) pe_int) pa_nil))) (pss_one (ps_ret pe_int)) pss_nil) (pss_cons (ps_asg (pe_callTy call_intM (by rfl) T.z_int (by decide +kernel) (pa_cons (e_x K (e_x K (v_ 0) pe_int) (e_x K (v_ 0) pe_int)) pa_nil)) (pg_sub (v_ 0) pe_int set_list)) (pss_cons (ps_asg (pe_op (addK K) (e_x K (v_ 0) pe_int) pe_int) (pg_sub (v_ 0) pe_int set_list)) (pss_cons (ps_asg pe_int (pg_sub (v_ 0) pe_int set_list)) (pss_cons (ps_asg pe_int (pg_sub (v_ 0) pe_int set_list)) (pss_one (ps_if (pt_c op_ltM (e_x K (v_ 0) pe_int) (pe_op op_powM pe_int pe_int)) (pss_one (ps_asg pe_int (pg_sub (v_ 0) pe_int set_list))) pss_nil))))))) pss_nil) (pss_cons (ps_asg (pe_op (addK K) (e_x K (v_ 0) pe_int) pe_int) (pg_sub (v_ 0) pe_int set_list)) (pss_cons (ps_if (pt_c (eqK K hr.units) (e_x K (v_ 0) pe_int) pe_int) (pss_cons (ps_set (i := 5) sc__law_draw.nd rfl (.inl rfl) (pe_op op_modM (pe_callTy call_intM (by rfl) T.z_int (by decide +kernel) (pa_cons (e_x K (v_ 0) pe_int) pa_nil)) (v_ 1))) (pss_cons (ps_asg (pe_op op_divM (pe_callTy call_intM (by rfl) T.z_int (by decide +kernel) (pa_cons (e_x K (v_ 0) pe_int) pa_nil)) (v_ 1)) (pg_sub (v_ 0) pe_int set_list)) (Evl.pss_cut (ps_if (PW.pt (pw_or (pt_c (eqK K hr.units) (e_x K (v_ 0) pe_int) pe_int) (pw_or1 (pt_c op_geM (e_x K (v_ 0) pe_int) pe_int)))) (pss_one (ps_asg pe_int (pg_sub (v_ 0) pe_int set_list))) pss_nil) (pss_one (ps_ret (v_ 5)))))) pss_nil) (pss_cons (ps_set (i := 2) sc__law_draw.nd rfl (.inl rfl) (pe_op op_modM (pe_callTy call_intM (by rfl) T.z_int (by decide +kernel) (pa_cons (pe_op (addK K) (pe_op op_mulSM (e_x K (v_ 0) pe_int) pe_int) (pe_op op_mulSM (e_x K (v_ 0) pe_int) pe_int)) pa_nil)) pe_int)) (pss_cons (ps_set (i := 3) sc__law_draw.nd rfl (.inl rfl) (pe_op op_modM (pe_callTy call_intM (by rfl) T.z_int (by decide +kernel) (pa_cons (pe_op (addK K) (pe_op (addK K) (pe_op op_mulSM (v_ 2) (v_ 2)) (pe_op op_mulSM (e_x K (v_ 0) pe_int) pe_int)) pe_int) pa_nil)) pe_int)) (Evl.pss_cut (ps_if (pt_c op_geM (e_x K (v_ 0) pe_int) pe_int) (pss_one (ps_asg pe_int (pg_sub (v_ 0) pe_int set_list))) pss_nil) (pss_cons (ps_set (i := 4) sc__law_draw.nd rfl (.inl rfl) (pe_op op_modM (pe_callTy call_intM (by rfl) T.z_int (by decide +kernel) (pa_cons (pe_op (addK K) (pe_op op_mulSM (v_ 3) pe_int) (v_ 2)) pa_nil)) pe_int)) (pss_one (ps_ret (pe_op op_modM (pe_callTy call_intM (by rfl) T.z_int (by decide +kernel) (pa_cons (v_ 4) pa_nil)) (v_ 1))))))))))), ?_⟩
  refine ⟨fun σ' H' => σ' = [some (.ref st), some (.int many), none, none, none, none] ∧ ∃ i v m c, H' = upd H st (.lst (stv scr i v m c)) ∧ 0 ≤ i, ?_, ?_⟩
  · refine ⟨_, .inl (SqL.of hst), _, rfl, ?_⟩
    refine ite2 (fun e => ?_) (fun e => ?_)
    · refine ⟨_, .inl (SqL.of hst), _, rfl, _, .inl (SqL.of hst), _, rfl, .inl ⟨_, .inl (SqL.of hscr), ?_⟩⟩
      refine ite2 (fun e1 => ?_) (fun e1 => ?_)
      · have z := q 0 (stv scr i v m c) (by omega) hm0 (DrAt.upd hst hscr hl h0)
        rw [upd_id hst] at z
        exact z
      · have e2 := of_decide_eq_false (Bool.eq_false_iff.mpr e1)
        rw [List.length_map] at e2
        obtain ⟨z, hz⟩ : ∃ z, atI (ns.map V.int) i = some (.int z) := by
          have hi : i.toNat < ns.length := by omega
          refine ⟨ns[i.toNat], ?_⟩
          have hq : atI (ns.map V.int) ((i.toNat : Nat) : Int) = some (.int ns[i.toNat]) := atI_nat (by rw [List.getElem?_map, List.getElem?_eq_getElem hi]; rfl)
          rwa [show ((i.toNat : Nat) : Int) = i by omega] at hq
        refine ⟨_, .inl (SqL.of hst), _, rfl, _, .inl (SqL.of hst), _, rfl, _, .inl (SqL.of hscr), _, hz, ?_⟩
        refine ⟨_, _, _, 2, rfl, rfl, hst, rfl, ?_⟩
        refine ⟨_, .inl (SqL.of upd_same), _, rfl, ?_⟩
        refine ⟨_, _, _, 1, rfl, rfl, upd_same, rfl, ?_⟩
        refine ⟨_, _, _, 3, rfl, rfl, upd_same, rfl, ?_⟩
        refine ⟨_, _, _, 4, rfl, rfl, upd_same, rfl, ?_⟩
        refine ⟨_, .inl (SqL.of upd_same), _, rfl, (by unfold CPow; decide), ?_⟩
        refine ite2 (fun e3 => ?_) (fun e3 => ?_)
        · refine ⟨_, _, _, 3, rfl, rfl, upd_same, rfl, rfl, i + 1, z, 2, 0, ?_, by omega⟩
          rw [upd_upd, upd_upd, upd_upd, upd_upd]
          rfl
        · refine ⟨rfl, i + 1, z, 1, 0, ?_, by omega⟩
          rw [upd_upd, upd_upd, upd_upd]
          rfl
    · exact ⟨rfl, i, v, m, c, (upd_id hst).symm, h0⟩
  · rintro σ' H' ⟨rfl, i, v, m, c, rfl, h0⟩
    have hscr' : ∀ o, upd H st o scr = some (.lst (ns.map V.int)) := fun o => by rw [upd_ne hne]; exact hscr
    refine ⟨_, .inl (SqL.of upd_same), _, rfl, ?_⟩
    refine ⟨_, _, _, 4, rfl, rfl, upd_same, rfl, ?_⟩
    rw [upd_upd]
    refine ⟨_, .inl (SqL.of upd_same), _, rfl, ?_⟩
    refine ite2 (fun e => ?_) (fun e => ?_)
    · refine ⟨_, .inl (SqL.of upd_same), _, rfl, hm0, ?_⟩
      refine ⟨_, .inl (SqL.of upd_same), _, rfl, .inr (wide_div hm0 (b := 200) hm1 (by decide) (by decide)), ?_⟩
      refine ⟨_, _, _, 2, rfl, rfl, upd_same, rfl, ?_⟩
      rw [upd_upd]
      have fin : ∀ m' : Int, Q (.int (v % many)) (upd H st (.lst (stv scr i (v / many) m' (c + 1)))) := fun m' => q _ _ (Int.emod_nonneg _ (by omega)) (Int.emod_lt_of_pos _ hm0) (DrAt.upd hst hscr hl h0)
      refine ⟨fun σ' H' => σ' = [some (.ref st), some (.int many), none, none, none, some (.int (v % many))] ∧ ∃ m', H' = upd H st (.lst (stv scr i (v / many) m' (c + 1))), ?_, ?_⟩
      · refine ⟨_, .inl (SqL.of upd_same), _, rfl, ?_⟩
        refine ite2 (fun e1 => ?_) (fun e1 => ?_)
        · refine ⟨_, _, _, 3, rfl, rfl, upd_same, rfl, rfl, 0, ?_⟩
          rw [upd_upd]
          rfl
        · refine ⟨_, .inl (SqL.of upd_same), _, rfl, ?_⟩
          refine ite2 (fun e1 => ?_) (fun e1 => ?_)
          · refine ⟨_, _, _, 3, rfl, rfl, upd_same, rfl, rfl, 0, ?_⟩
            rw [upd_upd]
            rfl
          · exact ⟨rfl, m, rfl⟩
      · rintro σ' H' ⟨rfl, m', rfl⟩
        exact fin m'
    · refine ⟨_, .inl (SqL.of upd_same), _, rfl, .inl (.inr ⟨by decide, by decide⟩), ?_⟩
      refine ⟨_, .inl (SqL.of upd_same), _, rfl, .inl (.inr ⟨by decide, by decide⟩), (by decide), ?_⟩
      have f0 := Int.emod_nonneg (v * 48271 + (c + 1) * 69621) (by decide : (2147483647 : Int) ≠ 0)
      have f1 := Int.emod_lt_of_pos (v * 48271 + (c + 1) * 69621) (by decide : (0 : Int) < 2147483647)
      refine ⟨.inl (.inl ⟨by omega, by omega⟩), ?_⟩
      refine ⟨_, .inl (SqL.of upd_same), _, rfl, .inl (.inr ⟨by decide, by decide⟩), (by decide), ?_⟩
      have fin : ∀ (m' x : Int), Q (.int (x % many)) (upd H st (.lst (stv scr i v m' (c + 1)))) := fun m' x => q _ _ (Int.emod_nonneg _ (by omega)) (Int.emod_lt_of_pos _ hm0) (DrAt.upd hst hscr hl h0)
      refine ⟨fun σ' H' => (∃ a b, σ' = [some (.ref st), some (.int many), some (.int a), some (.int b), none, none]) ∧ ∃ m', H' = upd H st (.lst (stv scr i v m' (c + 1))), ?_, ?_⟩
      · refine ⟨_, .inl (SqL.of upd_same), _, rfl, ?_⟩
        refine ite2 (fun e1 => ?_) (fun e1 => ?_)
        · refine ⟨_, _, _, 3, rfl, rfl, upd_same, rfl, ⟨_, _, rfl⟩, 0, ?_⟩
          rw [upd_upd]
          rfl
        · exact ⟨⟨_, _, rfl⟩, m, rfl⟩
      · rintro σ' H' ⟨⟨a, b, rfl⟩, m', rfl⟩
        refine ⟨.inl (.inr ⟨by decide, by decide⟩), (by decide), hm0, ?_⟩
        exact fin m' _

/-! ### _law_state -/
def sp__law_state (K : PySem.W.Frag) : Sp := fun vs H Q _ => ∃ (a : Addr) (ns : List Int), vs = [.ref a] ∧ SqL K H a (ns.map V.int) ∧ ns.length ≤ 63 ∧
  ∀ (H' : Hp) (st scr : Addr), Same H H' → H st = none → H scr = none → DrAt H' st scr → Q (.ref st) H'
theorem len__law_state {vs : List V} {H : Hp} {Q : VK} {E : XK} (h : sp__law_state K vs H Q E) : vs.length = 1 := by
  obtain ⟨_, _, rfl, _⟩ := h
  rfl
theorem ok__law_state {f : Addr} {fd : FuncData} (F : Fun K "_law_state" "_law_state" s__law_state f fd) (T : Gs K mg t_LETTERS t_LONGEST_NAME a_DEEDS a_RESERVED a_BadName a_BadPlan a_Plan) : FnOk P w K mg base CX0 1 f fd ["_law_script"] (sp__law_state K) := by
  refine F.ok sc__law_state (fun vs H Q E h => len__law_state h) (fun cdv A outer s H vs Q E hr h => ?_)
  obtain ⟨a, ns, rfl, hS, hl, q⟩ := h
  refine ⟨_, (pss_one (ps_ret (pe_lst (pa_cons (pe_callTy (listK K) (by rfl) T.z_list (by decide +kernel) (pa_cons (v_ 0) pa_nil)) (pa_cons pe_int (pa_cons pe_int (pa_cons pe_int (pa_cons pe_int pa_nil)))))))), ?_⟩
  refine ⟨_, _, rfl, .inl hS, fun l nl => ?_⟩
  refine ⟨(by show 5 ≤ sizeLine; decide), fun st nst => ?_⟩
  have hne := new_ne nst
  refine q _ st l ((same_new nl).trans (same_new nst)) (free_new nst) nl ⟨ns, 0, 0, 0, 0, upd_same, ?_, hl, by omega⟩
  rw [upd_ne hne.symm, upd_same]

theorem at_list {α : Type} {xs : List α} {r : Int} (h0 : 0 ≤ r) (h1 : r < xs.length) : ∃ x, atI xs r = some x ∧ x ∈ xs := by
  have hi : r.toNat < xs.length := by omega
  refine ⟨xs[r.toNat], ?_, List.getElem_mem hi⟩
  have hq : atI xs ((r.toNat : Nat) : Int) = some xs[r.toNat] := atI_nat (List.getElem?_eq_getElem hi)
  rwa [show ((r.toNat : Nat) : Int) = r by omega] at hq
theorem at_str {z : Str} {r : Int} (h0 : 0 ≤ r) (h1 : r < z.length) : ∃ c, atI z.cps.toList r = some c ∧ c ∈ z.cps.toList := at_list h0 (by rw [len_cps]; exact h1)
theorem many_small {m : Int} (h0 : 0 < m) (h1 : m ≤ 1000000000) : m.natAbs < 2 ^ 200 := Nat.lt_of_le_of_lt (show m.natAbs ≤ 2 ^ 30 by omega) (Nat.pow_lt_pow_right (by decide) (by decide))
theorem cutV_take (xs : List V) {k : Int} (h : 0 ≤ k) : cutV xs none (some k) = xs.take k.toNat := by
  unfold cutV
  have e := HT.sIx_nat xs.length xs.length k.toNat
  rw [show ((k.toNat : Nat) : Int) = k by omega] at e
  rw [e, HT.sIx_none, List.drop_zero]
  by_cases hk : k.toNat ≤ xs.length
  · rw [Nat.min_eq_left hk, Nat.sub_zero]
  · rw [Nat.min_eq_right (by omega), Nat.sub_zero, List.take_length, List.take_of_length_le (by omega)]
theorem cutV_drop (xs : List V) {k : Int} (h : 0 ≤ k) : cutV xs (some k) none = xs.drop k.toNat := by
  unfold cutV
  have e := HT.sIx_nat xs.length 0 k.toNat
  rw [show ((k.toNat : Nat) : Int) = k by omega] at e
  rw [e, HT.sIx_none]
  by_cases hk : k.toNat ≤ xs.length
  · rw [Nat.min_eq_left hk, List.take_of_length_le (by rw [List.length_drop]; omega)]
  · rw [Nat.min_eq_right (by omega), List.drop_of_length_le (Nat.le_refl _), List.drop_of_length_le (by omega)]
    exact List.take_nil
def sp_check_name (K : PySem.W.Frag) : Sp := fun vs H Q E => ∃ z : Str, vs = [.str z] ∧ z.length ≤ 1000 ∧ Asc z ∧ (if isName z = true then ∀ H', Same H H' → Q .non H' else BadN K H z E)
theorem len_check_name {vs : List V} {H : Hp} {Q : VK} {E : XK} (h : sp_check_name K vs H Q E) : vs.length = 1 := by
  obtain ⟨_, rfl, _⟩ := h
  rfl
theorem ok_check_name {f : Addr} {fd : FuncData} {f_is_name : Addr} {fd_is_name : FuncData} {f_BadName : Addr} {fd_BadName : FuncData} (F : Fun K "check_name" "check_name" s_check_name f fd) (T : Gs K mg t_LETTERS t_LONGEST_NAME a_DEEDS a_RESERVED a_BadName a_BadPlan a_Plan) (c_is_name : Cal P w K mg base CX0 1 "is_name" f_is_name fd_is_name ["text"] (sp_is_name K)) (c_BadName : CalE P w K mg base 1 "BadName" a_BadName f_BadName fd_BadName ["self", "name"] okx_BadName fs_BadName ["name"]) : FnOk P w K mg base (L2.CX P w) 3 f fd ["text"] (sp_check_name K) := by
  refine F.okX sc_check_name (fun vs H Q E h => len_check_name h) (fun cdv A outer s H vs Q E hr h => ?_)
  obtain ⟨z, rfl, h0, h1, q⟩ := h
  refine ⟨_, (pss_one (ps_if (pt_not (pt_t K (pe_call c_is_name.G (hr.mono (by first | decide | omega)) rfl c_is_name.m c_is_name.kp c_is_name.b .nil pass0 (pa_cons (v_ 0) pa_nil)))) (pss_one (ps_raise rfl (takes_of rfl rfl rfl rfl) (pmk_oex c_BadName.X.oex c_BadName.X.iC c_BadName.X.tI c_BadName.G (hr.mono (by first | decide | omega)) c_BadName.b .nil pass0 rfl c_BadName.m (pa_cons (v_ 0) pa_nil)))) pss_nil)), ?_⟩
  refine ⟨z, rfl, h0, fun H' s => ?_⟩
  refine ite2 (fun e => ?_) (fun e => ?_)
  · have e : ¬ isName z = true := by
      have e : (!isName z) = true := e
      rw [Bool.not_eq_true'] at e
      rw [e]
      decide
    rw [if_neg e] at q
    refine mk_spE (by show 1 ≤ 1000; decide) ⟨z, rfl, h0, h1⟩ (fun d nd => ?_)
    exact q a_BadName d _ T.n_BadName (s.trans (same_new nd)) (Same.free s nd) upd_same
  · have e : isName z = true := by
      have e : ¬ (!isName z) = true := e
      rw [Bool.not_eq_true, Bool.not_eq_false'] at e
      exact e
    rw [if_pos e] at q
    exact q H' s
theorem take_snoc {α : Type} {xs : List α} {i : Nat} {x : α} (h : xs[i]? = some x) : xs.take (i + 1) = xs.take i ++ [x] := by
  rw [List.take_add_one, h]
  rfl
theorem SqT.same {K : PySem.W.Frag} {H H' : Hp} {a : Addr} {xs : List V} (h : SqT K H a xs) (s : Same H H') : SqT K H' a xs := by
  rcases h with (h | ⟨o, h⟩) | h
  · exact .inl (.inl (s _ _ h))
  · exact .inl (.inr ⟨o, s _ _ h⟩)
  · exact .inr h
/-- no tuple stands at st -/
def NT (H : Hp) (st : Addr) : Prop := ∀ xs : List V, H st ≠ some (.tup xs) ∧ ∀ o, H st ≠ some (.frz o (.tup xs))
theorem NT.lst {H : Hp} {st : Addr} (h : ∃ l, H st = some (.lst l)) : NT H st := fun xs => by
  obtain ⟨l, h⟩ := h
  rw [h]
  exact ⟨(fun e => by cases e), (fun o e => by cases e)⟩
theorem NT.ins {H : Hp} {st C dx : Addr} {fs : List (Str × V)} (h : H st = some (.ins C dx fs)) : NT H st := fun xs => by
  rw [h]
  exact ⟨(fun e => by cases e), (fun o e => by cases e)⟩
theorem SqT.bt {K : PySem.W.Frag} {H H' : Hp} {a st : Addr} {xs : List V} (h : SqT K H a xs) (hs : NT H st) (s : Bt st H H') : SqT K H' a xs := by
  rcases h with (h | ⟨o, h⟩) | h
  · exact .inl (.inl (s _ _ (fun e => (hs xs).1 (e ▸ h)) h))
  · exact .inl (.inr ⟨o, s _ _ (fun e => (hs xs).2 o (e ▸ h)) h⟩)
  · exact .inr h
theorem ty_tup {K : PySem.W.Frag} {H : Hp} {a : Addr} {xs : List V} (h : SqT K H a xs) : TyX K H (.ref a) (.type "tuple") := by
  rcases h with (h | ⟨o, h⟩) | ⟨o, its, n, e, c, _⟩
  · exact .base (.tup h)
  · exact .fTuple h
  · exact .kTuple e c
/-! ### comprehensions without effects -/
/-- what such a comprehension has made by its turn i -/
def PvP (H1 : Hp) (D : Addr) (acc : Nat → List V) (i : Nat) (H' : Hp) : Prop := Same H1 H' ∧ H' D = some (.lst (acc i))
theorem pvp_start {H1 : Hp} {D : Addr} {acc : Nat → List V} (nD : H1 D = none) (h0 : acc 0 = []) : PvP H1 D acc 0 (upd H1 D (.lst [])) := ⟨same_new nD, by rw [upd_same, h0]⟩
theorem pvp_put {H1 H2 H4 : Hp} {D : Addr} {acc : Nat → List V} {i : Nat} {y : V} (nD : H1 D = none) (p : PvP H1 D acc i H2) (s : Same H2 H4) (e : acc (i + 1) = acc i ++ [y]) (l : (acc i).length < 100000) :
    ∃ a, H4 D = some (.lst a) ∧ a.length < sizeLine ∧ PvP H1 D acc (i + 1) (upd H4 D (.lst (a ++ [y]))) :=
  ⟨acc i, s _ _ p.2, line_lt l, fun b o hb => by rw [upd_ne (ne_of_none hb nD)]; exact s _ _ (p.1 _ _ hb), by rw [upd_same, e]⟩
theorem pvp_skip {H1 H2 H4 : Hp} {D : Addr} {acc : Nat → List V} {i : Nat} (p : PvP H1 D acc i H2) (s : Same H2 H4) (e : acc (i + 1) = acc i) : PvP H1 D acc (i + 1) H4 := ⟨p.1.trans s, by rw [e]; exact s _ _ p.2⟩
/-- those of the first i that pass -/
def keepF {α : Type} (xs : List α) (p : α → Bool) (f : α → V) (i : Nat) : List V := ((xs.take i).filter p).map f
theorem keepF_put {α : Type} {xs : List α} {p : α → Bool} {f : α → V} {i : Nat} {x : α} (e : xs[i]? = some x) (h : p x = true) : keepF xs p f (i + 1) = keepF xs p f i ++ [f x] := by
  unfold keepF
  rw [take_snoc e, List.filter_append, List.filter_cons_of_pos h, List.map_append]
  rfl
theorem keepF_skip {α : Type} {xs : List α} {p : α → Bool} {f : α → V} {i : Nat} {x : α} (e : xs[i]? = some x) (h : ¬ p x = true) : keepF xs p f (i + 1) = keepF xs p f i := by
  unfold keepF
  rw [take_snoc e, List.filter_append, List.filter_cons_of_neg h, List.filter_nil, List.append_nil]
theorem keepF_len {α : Type} {xs : List α} {p : α → Bool} {f : α → V} {i : Nat} : (keepF xs p f i).length ≤ xs.length := by
  unfold keepF
  rw [List.length_map]
  have h1 := List.length_filter_le p (xs.take i)
  rw [List.length_take] at h1
  omega
theorem keepF_all {α : Type} {xs : List α} {p : α → Bool} {f : α → V} {n : Nat} (h : n = xs.length) : keepF xs p f n = (xs.filter p).map f := by
  unfold keepF
  rw [h, List.take_length]
def mapF {α : Type} (xs : List α) (f : α → V) (i : Nat) : List V := (xs.take i).map f
theorem mapF_put {α : Type} {xs : List α} {f : α → V} {i : Nat} {x : α} (e : xs[i]? = some x) : mapF xs f (i + 1) = mapF xs f i ++ [f x] := by
  unfold mapF
  rw [take_snoc e, List.map_append]
  rfl
theorem mapF_len {α : Type} {xs : List α} {f : α → V} {i : Nat} : (mapF xs f i).length ≤ xs.length := by
  unfold mapF
  rw [List.length_map, List.length_take]
  omega
theorem mapF_all {α : Type} {xs : List α} {f : α → V} {n : Nat} (h : n = xs.length) : mapF xs f n = xs.map f := by
  unfold mapF
  rw [h, List.take_length]
/-! ### steps -/
abbrev Stp := Str × Str
abbrev tk (k : Str) : Stp := ("take", k)
abbrev lo (k : Str) : Stp := ("look", k)
abbrev fr (k : Str) : Stp := ("free", k)
def deeds : List Str := ["take", "look", "free"]
def looked (ps : List Stp) : List Str := (ps.filter fun p => decide (p.1 = ("look" : Str))).map (·.2)
def stepFits (ps : List Stp) (i : Nat) (p : Stp) : Bool := if p.1 = "free" ∧ tk p.2 ∉ ps.take i then false else decide (p.1 ∈ deeds) && decide (lo p.2 ∈ ps)
def stepsFit (ps : List Stp) : Bool := decide (ps ≠ []) && decide ps.Nodup && (List.range ps.length).all fun i => match ps[i]? with
  | some p => stepFits ps i p
  | none => false
def keysFit (ps : List Stp) (zs : List Str) : Bool := decide zs.Nodup && zs.all fun z => decide (lo z ∈ ps)
theorem pair_same {K : PySem.W.Frag} {H H' : Hp} {v : V} {p : Stp} (h : PairAt K H v p) (s : Same H H') : PairAt K H' v p := by
  obtain ⟨r, e, h⟩ := h
  exact ⟨r, e, SqT.same h s⟩
theorem pair_bt {K : PySem.W.Frag} {H H' : Hp} {st : Addr} {v : V} {p : Stp} (h : PairAt K H v p) (hs : NT H st) (s : Bt st H H') : PairAt K H' v p := by
  obtain ⟨r, e, h⟩ := h
  exact ⟨r, e, SqT.bt h hs s⟩
theorem pairs_map {K : PySem.W.Frag} {H H' : Hp} (f : ∀ v p, PairAt K H v p → PairAt K H' v p) {vs : List V} {ps : List Stp} (h : PairsIn K H vs ps) : PairsIn K H' vs ps := by
  induction h with
  | nil => exact .nil
  | cons a _ ih => exact .cons (f _ _ a) ih
theorem pairs_same {K : PySem.W.Frag} {H H' : Hp} {vs : List V} {ps : List Stp} (h : PairsIn K H vs ps) (s : Same H H') : PairsIn K H' vs ps := pairs_map (fun _ _ a => pair_same a s) h
theorem pairs_bt {K : PySem.W.Frag} {H H' : Hp} {st : Addr} {vs : List V} {ps : List Stp} (h : PairsIn K H vs ps) (hs : NT H st) (s : Bt st H H') : PairsIn K H' vs ps := pairs_map (fun _ _ a => pair_bt a hs s) h
theorem pairs_len {K : PySem.W.Frag} {H : Hp} {vs : List V} {ps : List Stp} (h : PairsIn K H vs ps) : vs.length = ps.length := by
  induction h with
  | nil => rfl
  | cons _ _ ih => rw [List.length_cons, List.length_cons, ih]
theorem pairs_at {K : PySem.W.Frag} {H : Hp} {vs : List V} {ps : List Stp} (h : PairsIn K H vs ps) : ∀ {i : Nat} {v : V}, vs[i]? = some v → ∃ p, ps[i]? = some p ∧ PairAt K H v p := by
  induction h with
  | nil => intro i v e; simp at e
  | @cons a p as ps h1 _ ih =>
    intro i v e
    cases i with
    | zero => cases e; exact ⟨p, rfl, h1⟩
    | succ i => exact ih e
theorem pairs_to {K : PySem.W.Frag} {H : Hp} {vs : List V} {ps : List Stp} (h : PairsIn K H vs ps) {i : Nat} {p : Stp} (e : ps[i]? = some p) : ∃ v, vs[i]? = some v ∧ PairAt K H v p := by
  have l := pairs_len h
  have il := (List.getElem?_eq_some_iff.mp e).1
  obtain ⟨q, e2, hq⟩ := pairs_at h (List.getElem?_eq_getElem (show i < vs.length by omega))
  rw [e] at e2
  cases e2
  exact ⟨_, List.getElem?_eq_getElem (by omega), hq⟩
theorem pairs_take {K : PySem.W.Frag} {H : Hp} {vs : List V} {ps : List Stp} (h : PairsIn K H vs ps) : ∀ n, PairsIn K H (vs.take n) (ps.take n) := by
  induction h with
  | nil => intro n; rw [List.take_nil, List.take_nil]; exact .nil
  | cons a _ ih =>
    intro n
    cases n with
    | zero => exact .nil
    | succ n => exact .cons a (ih n)
theorem pairs_snoc {K : PySem.W.Frag} {H : Hp} {vs : List V} {ps : List Stp} {v : V} {p : Stp} (h : PairsIn K H vs ps) (a : PairAt K H v p) : PairsIn K H (vs ++ [v]) (ps ++ [p]) := by
  induction h with
  | nil => exact .cons a .nil
  | cons b _ ih => exact .cons b ih
/-- a tuple of steps -/
def StT (K : PySem.W.Frag) (H : Hp) (t : Addr) (ps : List Stp) : Prop := ∃ vs, SqT K H t vs ∧ PairsIn K H vs ps
theorem StT.same {K : PySem.W.Frag} {H H' : Hp} {t : Addr} {ps : List Stp} (h : StT K H t ps) (s : Same H H') : StT K H' t ps := by
  obtain ⟨vs, h1, h2⟩ := h
  exact ⟨vs, SqT.same h1 s, pairs_same h2 s⟩
theorem StT.bt {K : PySem.W.Frag} {H H' : Hp} {st t : Addr} {ps : List Stp} (h : StT K H t ps) (hs : NT H st) (s : Bt st H H') : StT K H' t ps := by
  obtain ⟨vs, h1, h2⟩ := h
  exact ⟨vs, SqT.bt h1 hs s, pairs_bt h2 hs s⟩
/-- a new pair -/
theorem pair_new {K : PySem.W.Frag} {H : Hp} {r : Addr} {a b : Str} : PairAt K (upd H r (.tup [.str a, .str b])) (.ref r) (a, b) := ⟨r, rfl, SqT.of upd_same⟩
/-- a tuple of texts -/
def TxT (K : PySem.W.Frag) (H : Hp) (t : Addr) (zs : List Str) : Prop := SqT K H t (zs.map V.str)
/-- texts in a list or a tuple -/
def TxS (K : PySem.W.Frag) (H : Hp) (t : Addr) (zs : List Str) : Prop := SqT K H t (zs.map V.str) ∨ SqL K H t (zs.map V.str)
theorem TxS.same {K : PySem.W.Frag} {H H' : Hp} {t : Addr} {zs : List Str} (h : TxS K H t zs) (s : Same H H') : TxS K H' t zs := h.imp (fun h => SqT.same h s) (fun h => s.seq h)
/-- a plan -/
def PlAt (K : PySem.W.Frag) (H : Hp) (a : Addr) (ps : List Stp) (lk kp : List Str) : Prop := ∃ C dx t l k : Addr, PySem.W.nsIn K mainGlobals "Plan" = some (some (.ref C)) ∧ H a = some (.ins C dx [("steps", .ref t), ("locked", .ref l), ("kept", .ref k)]) ∧ StT K H t ps ∧ TxT K H l lk ∧ TxT K H k kp
theorem PlAt.same {K : PySem.W.Frag} {H H' : Hp} {a : Addr} {ps : List Stp} {lk kp : List Str} (h : PlAt K H a ps lk kp) (s : Same H H') : PlAt K H' a ps lk kp := by
  obtain ⟨C, dx, t, l, k, h1, h2, h3, h4, h5⟩ := h
  exact ⟨C, dx, t, l, k, h1, s _ _ h2, h3.same s, SqT.same h4 s, SqT.same h5 s⟩
theorem PlAt.bt {K : PySem.W.Frag} {H H' : Hp} {st a : Addr} {ps : List Stp} {lk kp : List Str} (h : PlAt K H a ps lk kp) (hs : ∃ l, H st = some (.lst l)) (s : Bt st H H') : PlAt K H' a ps lk kp := by
  obtain ⟨C, dx, t, l, k, h1, h2, h3, h4, h5⟩ := h
  refine ⟨C, dx, t, l, k, h1, s _ _ (fun e => ?_) h2, h3.bt (NT.lst hs) s, SqT.bt h4 (NT.lst hs) s, SqT.bt h5 (NT.lst hs) s⟩
  obtain ⟨l, e2⟩ := hs
  rw [e, e2] at h2
  cases h2
end
section
variable {P : Program} {w : World} {K : PySem.W.Frag} {mg : Str → Option Value} {base : Heap}
variable {t_LETTERS t_LONGEST_NAME : Tok} {a_DEEDS a_RESERVED a_BadName a_BadPlan a_Plan : Addr}
/-! ### looked_at -/
def sp_looked_at (K : PySem.W.Frag) : Sp := fun vs H Q _ => ∃ (t : Addr) (ps : List Stp), vs = [.ref t] ∧ StT K H t ps ∧ ps.length < 64 ∧ ∀ H' r, Same H H' → H r = none → H' r = some (.tup ((looked ps).map V.str)) → Q (.ref r) H'
theorem len_looked_at {vs : List V} {H : Hp} {Q : VK} {E : XK} (h : sp_looked_at K vs H Q E) : vs.length = 1 := by
  obtain ⟨_, _, rfl, _⟩ := h
  rfl
theorem ok_looked_at {f : Addr} {fd : FuncData} (F : Fun K "looked_at" "looked_at" s_looked_at f fd) (T : Gs K mg t_LETTERS t_LONGEST_NAME a_DEEDS a_RESERVED a_BadName a_BadPlan a_Plan) : FnOk P w K mg base CX0 1 f fd ["steps"] (sp_looked_at K) := by
  refine F.ok sc_looked_at (fun vs H Q E h => len_looked_at h) (fun cdv A outer s H vs Q E hr h => ?_)
  obtain ⟨t, ps, rfl, ⟨vs, ht, hp⟩, few, q⟩ := h
  refine ⟨_, (pss_one (ps_ret (pe_callTy (tupleK K) (by rfl) T.z_tuple (by decide +kernel) (pa_cons (pe_lc (own := [("deed", 1), ("key", 2)]) (g := gTup K 2 (gCons (gName 1) (gCons (gName 2) gNil))) (by rfl) sc_looked_at.nd (pi_tup (v_ 0)) (blkOk_by (N := ["steps", "deed", "key"]) (sc := defScope s_looked_at) (by decide +kernel)) (fun _ _ _ _ _ => pg_tupK K (by rfl) (pgs_cons (pg_name (i := 1) sc_looked_at.nd rfl (Or.inl rfl)) (pgs_cons (pg_name (i := 2) sc_looked_at.nd rfl (Or.inl rfl)) pgs_nil))) (fun _ _ _ _ _ => pts_one (pt_c (eqK K hr.units) (v_ 1) pe_str)) (fun _ _ _ _ _ => (v_ 2))) pa_nil)))), ?_⟩
  have vl := pairs_len hp
  refine ⟨t, rfl, ⟨_, ht⟩, fun D nD => ?_⟩
  refine lc_it (walk_tup (xs := vs)) (PvP H D (keepF ps (fun p => decide (p.1 = ("look" : Str))) fun p => .str p.2)) (pvp_start nD rfl) (fun _ _ _ h => SqT.same ht h.1) ?_ ?_
  · rintro i v H1 H2 hi pv ⟨rfl, hv⟩
    obtain ⟨⟨d, k⟩, e, r, rfl, hr⟩ := pairs_at (pairs_same hp pv.1) hv
    refine ⟨r, _, rfl, hr, rfl, _, _, rfl, _, _, rfl, rfl, rfl, ?_⟩
    refine ite2 (fun c => ?_) (fun c => ?_)
    · exact pvp_put nD pv (Same.refl _) (keepF_put e c) (Nat.lt_of_le_of_lt keepF_len (by omega))
    · exact pvp_skip pv (Same.refl _) (keepF_skip e c)
  · rintro H1 ⟨sm, hD⟩
    rw [keepF_all vl] at hD
    refine ⟨D, _, rfl, .inl ⟨SqL.of hD, fun r nr => ?_⟩⟩
    refine q _ r (sm.trans (same_new nr)) (Same.free sm nr) ?_
    rw [upd_same]
    unfold looked
    rw [List.map_map]
    rfl
/-! ### step_fits, steps_fit, keys_fit -/
theorem inV_deeds {d : Str} : inV (.str d) [.str "take", .str "look", .str "free"] = decide (d ∈ deeds) := inV_str (xs := deeds)
theorem mem_pair {K : PySem.W.Frag} {H : Hp} {r : Addr} {a b : Str} {o : HO} (h : H r = some o) (e : o = .tup [.str a, .str b]) : PairAt K H (.ref r) (a, b) := ⟨r, rfl, SqT.of (by rw [h, e])⟩
def sp_step_fits (K : PySem.W.Frag) : Sp := fun vs H Q _ => ∃ (t : Addr) (ps : List Stp) (i : Nat) (p : Stp), vs = [.ref t, .int (i : Int)] ∧ StT K H t ps ∧ ps.length < 64 ∧ ps[i]? = some p ∧ ∀ H', Same H H' → Q (.bl (stepFits ps i p)) H'
theorem len_step_fits {vs : List V} {H : Hp} {Q : VK} {E : XK} (h : sp_step_fits K vs H Q E) : vs.length = 2 := by
  obtain ⟨_, _, _, _, rfl, _⟩ := h
  rfl
theorem ok_step_fits {f : Addr} {fd : FuncData} (F : Fun K "step_fits" "step_fits" s_step_fits f fd) (T : Gs K mg t_LETTERS t_LONGEST_NAME a_DEEDS a_RESERVED a_BadName a_BadPlan a_Plan) : FnOk P w K mg base CX0 1 f fd ["steps", "at"] (sp_step_fits K) := by
  refine F.ok sc_step_fits (fun vs H Q E h => len_step_fits h) (fun cdv A outer s H vs Q E hr h => ?_)
  obtain ⟨t, ps, i, ⟨d, k⟩, rfl, ⟨vs, ht, hp⟩, few, ei, q⟩ := h
  refine ⟨_, (pss_cons (ps_asg (e_x K (v_ 0) (v_ 1)) (pg_tup (by rfl) (pgs_cons (pg_name (i := 2) sc_step_fits.nd rfl (.inl rfl)) (pgs_cons (pg_name (i := 3) sc_step_fits.nd rfl (.inl rfl)) pgs_nil)))) (pss_cons (ps_if (PW.pt (pw_and (pt_c (eqK K hr.units) (v_ 2) pe_str) (pw_and1 (pt_c (notInP K hr.units) (pe_tup (pa_cons pe_str (pa_cons (v_ 3) pa_nil))) (pe_slice (slK K) (v_ 0) po_none (po_some (v_ 1))))))) (pss_one (ps_ret pe_bl)) pss_nil) (pss_one (ps_ret (pe_andM (pe_c (inK K) (v_ 2) (pe_glob (v := .ref a_DEEDS) rfl T.g_DEEDS rfl)) (pe_one (pe_c (inP K hr.units) (pe_tup (pa_cons pe_str (pa_cons (v_ 3) pa_nil))) (v_ 0)))))))), ?_⟩
  obtain ⟨v, ev, r, rfl, hr⟩ := pairs_to hp ei
  have il := (List.getElem?_eq_some_iff.mp ei).1
  have vl := pairs_len hp
  refine ⟨vs, .inr ht, _, atI_nat ev, r, _, rfl, hr, rfl, _, _, rfl, _, _, rfl, rfl, ?_⟩
  have out : d = "free" → tk k ∉ ps.take i → stepFits ps i (d, k) = false := fun a b => if_pos ⟨a, b⟩
  have into : ¬ (d = "free" ∧ tk k ∉ ps.take i) → stepFits ps i (d, k) = (decide (d ∈ deeds) && decide (lo k ∈ ps)) := fun h => if_neg h
  refine ite2 (fun c => ?_) (fun c => ?_)
  · have c : d = "free" := of_decide_eq_true c
    refine ⟨(by show 2 ≤ sizeLine; decide), fun p np => ?_⟩
    have s1 := same_new (o := .tup [.str "take", .str k]) np
    have whole : ¬ (HT.sIx vs.length 0 none = 0 ∧ HT.sIx vs.length vs.length (some (i : Int)) = vs.length) := by
      rw [HT.sIx_nat]
      omega
    refine ⟨(i : Int), rfl, .inr ⟨t, vs, rfl, SqT.same ht s1, whole, fun u nu => ?_⟩⟩
    rw [cutV_take _ (by omega), show ((i : Int)).toNat = i from rfl]
    have HS := s1.trans (same_new (o := .tup (vs.take i)) nu)
    refine ⟨tk k, u, vs.take i, ps.take i, pair_same pair_new (same_new nu), rfl, .inl (SqT.of upd_same), pairs_take (pairs_same hp HS) i, ?_⟩
    refine ite2 (fun c2 => ?_) (fun c2 => ?_)
    · have z := q _ HS
      rw [out c (of_decide_eq_true c2)] at z
      exact z
    · have fit := into fun h => c2 (decide_eq_true h.2)
      refine ⟨_, .inr (T.q_DEEDS _), rfl, rfl, ?_⟩
      have eb : inV (.str d) [.str "take", .str "look", .str "free"] = decide (d ∈ deeds) := inV_deeds
      refine ite2 (fun c1 => ?_) (fun c1 => ?_)
      · refine ⟨(by show 2 ≤ sizeLine; decide), fun u nu => ?_⟩
        have s2 := HS.trans (same_new (o := .tup [.str "look", .str k]) nu)
        refine ⟨lo k, t, vs, ps, pair_new, rfl, .inl (SqT.same ht s2), pairs_same hp s2, ?_⟩
        have z := q _ s2
        rw [fit, show decide (d ∈ deeds) = true from eb.symm.trans c1, Bool.true_and] at z
        exact z
      · have z := q _ HS
        have n : decide (d ∈ deeds) = false := eb.symm.trans (Bool.eq_false_iff.mpr c1)
        rw [fit, n, Bool.false_and] at z
        exact z
  · have c : d ≠ "free" := fun h => c (decide_eq_true h)
    · have fit := into fun h => c h.1
      have HS := Same.refl H
      refine ⟨_, .inr (T.q_DEEDS _), rfl, rfl, ?_⟩
      have eb : inV (.str d) [.str "take", .str "look", .str "free"] = decide (d ∈ deeds) := inV_deeds
      refine ite2 (fun c1 => ?_) (fun c1 => ?_)
      · refine ⟨(by show 2 ≤ sizeLine; decide), fun u nu => ?_⟩
        have s2 := HS.trans (same_new (o := .tup [.str "look", .str k]) nu)
        refine ⟨lo k, t, vs, ps, pair_new, rfl, .inl (SqT.same ht s2), pairs_same hp s2, ?_⟩
        have z := q _ s2
        rw [fit, show decide (d ∈ deeds) = true from eb.symm.trans c1, Bool.true_and] at z
        exact z
      · have z := q _ HS
        have n : decide (d ∈ deeds) = false := eb.symm.trans (Bool.eq_false_iff.mpr c1)
        rw [fit, n, Bool.false_and] at z
        exact z
def sp_steps_fit (K : PySem.W.Frag) : Sp := fun vs H Q _ => ∃ (t : Addr) (ps : List Stp), vs = [.ref t] ∧ StT K H t ps ∧ ps.length < 64 ∧ ∀ H', Same H H' → Q (.bl (stepsFit ps)) H'
theorem len_steps_fit {vs : List V} {H : Hp} {Q : VK} {E : XK} (h : sp_steps_fit K vs H Q E) : vs.length = 1 := by
  obtain ⟨_, _, rfl, _⟩ := h
  rfl
def fitAt (ps : List Stp) (i : Nat) : Bool := match ps[i]? with
  | some p => stepFits ps i p
  | none => false
theorem ok_steps_fit {f : Addr} {fd : FuncData} {f_step_fits : Addr} {fd_step_fits : FuncData} (F : Fun K "steps_fit" "steps_fit" s_steps_fit f fd) (T : Gs K mg t_LETTERS t_LONGEST_NAME a_DEEDS a_RESERVED a_BadName a_BadPlan a_Plan) (c_step_fits : Cal P w K mg base CX0 1 "step_fits" f_step_fits fd_step_fits ["steps", "at"] (sp_step_fits K)) : FnOk P w K mg base CX0 2 f fd ["steps"] (sp_steps_fit K) := by
  refine F.ok sc_steps_fit (fun vs H Q E h => len_steps_fit h) (fun cdv A outer s H vs Q E hr h => ?_)
  obtain ⟨t, ps, rfl, ⟨vs, ht, hp⟩, few, q⟩ := h
  refine ⟨_, (pss_cons (ps_if (PW.pt (pw_or (pt_c (eqK K hr.units) (pe_callB (lenK K) (by rfl) T.z_len PySem.boot_len (pa_cons (v_ 0) pa_nil)) pe_int) (pw_or1 (pt_c op_ltM (pe_lenSetP K (by rfl) T.z_len (by rfl) T.z_set hr.units (v_ 0)) (pe_callB (lenK K) (by rfl) T.z_len PySem.boot_len (pa_cons (v_ 0) pa_nil)))))) (pss_one (ps_ret pe_bl)) pss_nil) (pss_one (ps_ret (pe_callB (allK K rfl) (by rfl) T.z_all (by decide +kernel) (pa_cons (pe_lc (own := [("at", 1)]) (g := gName 1) (by rfl) sc_steps_fit.nd (pi_range1 rfl T.z_range (pa_cons (pe_callB (lenK K) (by rfl) T.z_len PySem.boot_len (pa_cons (v_ 0) pa_nil)) pa_nil)) (blkOk_by (N := ["steps", "at"]) (sc := defScope s_steps_fit) (by decide +kernel)) (fun _ _ _ _ _ => pg_name (i := 1) sc_steps_fit.nd rfl (Or.inl rfl)) (fun _ _ _ _ _ => pts_nil) (fun _ _ _ _ _ => (pe_call c_step_fits.G (hr.mono (by first | decide | omega)) rfl c_step_fits.m c_step_fits.kp c_step_fits.b .nil pass0 (pa_cons (v_ 0) (pa_cons (v_ 1) pa_nil))))) pa_nil))))), ?_⟩
  have vl := pairs_len hp
  have no : (ps = [] ∨ ¬ ps.Nodup) → stepsFit ps = false := fun h => by
    unfold stepsFit
    rcases h with h | h
    · rw [h]; rfl
    · rw [decide_eq_false h, Bool.and_false, Bool.false_and]
  refine .inl ⟨_, .inr ht, ?_⟩
  refine ite2 (fun c => ?_) (fun c => ?_)
  · have c : (vs.length : Int) = 0 := of_decide_eq_true c
    have z := q H (Same.refl H)
    rw [no (.inl (List.eq_nil_of_length_eq_zero (by omega)))] at z
    exact z
  have ne : ps ≠ [] := fun h => c (decide_eq_true (by rw [vl, h]; rfl))
  refine ⟨t, vs, ps, rfl, ht, hp, few, fun n n1 n2 => ?_⟩
  refine .inl ⟨_, .inr ht, ?_⟩
  refine ite2 (fun c1 => ?_) (fun c1 => ?_)
  · have c1 : (n : Int) < vs.length := of_decide_eq_true c1
    have z := q H (Same.refl H)
    rw [no (.inr fun h => by have := n2.mpr h; omega)] at z
    exact z
  have nd : ps.Nodup := n2.mp (by have c1 : ¬ (n : Int) < vs.length := of_decide_eq_false (Bool.eq_false_iff.mpr c1); omega)
  have yes : stepsFit ps = (List.range ps.length).all (fitAt ps) := by
    unfold stepsFit
    rw [decide_eq_true ne, decide_eq_true nd]
    rfl
  refine .inl ⟨_, .inr ht, vs.length, rfl, by omega, by omega, fun D nD => ?_⟩
  refine lc_it (walk_range (lo := 0) (n := vs.length)) (PvP H D (mapF (List.range ps.length) fun i => .bl (fitAt ps i))) (pvp_start nD rfl) (fun _ _ _ _ => trivial) ?_ ?_
  · rintro i v H1 H2 hi pv ⟨rfl, hv⟩
    cases hv
    have il : i < ps.length := by omega
    obtain ⟨p, ep⟩ : ∃ p, ps[i]? = some p := ⟨_, List.getElem?_eq_getElem il⟩
    refine ⟨rfl, t, ps, i, p, ?_, (show StT K H t ps from ⟨vs, ht, hp⟩).same pv.1, few, ep, fun H3 s3 => ?_⟩
    · show [V.ref t, V.int (0 + (i : Int))] = _
      rw [Int.zero_add]
    refine pvp_put nD pv s3 ?_ (Nat.lt_of_le_of_lt mapF_len (by rw [List.length_range]; omega))
    rw [mapF_put (x := i) (by rw [List.getElem?_range il])]
    unfold fitAt
    rw [ep]
  · rintro H1 ⟨sm, hD⟩
    rw [mapF_all (by rw [List.length_range]; exact vl)] at hD
    refine ⟨D, (List.range ps.length).map (fitAt ps), rfl, SqL.of (by rw [hD, List.map_map]; rfl), ?_⟩
    have z := q _ sm
    rw [yes] at z
    rw [List.all_map]
    exact z
def sp_keys_fit (K : PySem.W.Frag) : Sp := fun vs H Q _ => ∃ (t l : Addr) (ps : List Stp) (zs : List Str), vs = [.ref t, .ref l] ∧ StT K H t ps ∧ TxS K H l zs ∧ ps.length < 64 ∧ zs.length < 64 ∧ ∀ H', Same H H' → Q (.bl (keysFit ps zs)) H'
theorem len_keys_fit {vs : List V} {H : Hp} {Q : VK} {E : XK} (h : sp_keys_fit K vs H Q E) : vs.length = 2 := by
  obtain ⟨_, _, _, _, rfl, _⟩ := h
  rfl
theorem ok_keys_fit {f : Addr} {fd : FuncData} (F : Fun K "keys_fit" "keys_fit" s_keys_fit f fd) (T : Gs K mg t_LETTERS t_LONGEST_NAME a_DEEDS a_RESERVED a_BadName a_BadPlan a_Plan) : FnOk P w K mg base CX0 1 f fd ["steps", "names"] (sp_keys_fit K) := by
  refine F.ok sc_keys_fit (fun vs H Q E h => len_keys_fit h) (fun cdv A outer s H vs Q E hr h => ?_)
  obtain ⟨t, l, ps, zs, rfl, ht, hl, few, fewz, q⟩ := h
  refine ⟨_, (pss_cons (ps_if (pt_c op_ltM (pe_lenSetS K (by rfl) T.z_len (by rfl) T.z_set (v_ 1)) (pe_callB (lenK K) (by rfl) T.z_len PySem.boot_len (pa_cons (v_ 1) pa_nil))) (pss_one (ps_ret pe_bl)) pss_nil) (pss_one (ps_ret (pe_callB (allK K rfl) (by rfl) T.z_all (by decide +kernel) (pa_cons (pe_lc (own := [("name", 2)]) (g := gName 2) (by rfl) sc_keys_fit.nd (pi_seqK K (v_ 1)) (blkOk_by (N := ["steps", "names", "name"]) (sc := defScope s_keys_fit) (by decide +kernel)) (fun _ _ _ _ _ => pg_name (i := 2) sc_keys_fit.nd rfl (Or.inl rfl)) (fun _ _ _ _ _ => pts_nil) (fun _ _ _ _ _ => (pe_c (inP K hr.units) (pe_tup (pa_cons pe_str (pa_cons (v_ 2) pa_nil))) (v_ 0)))) pa_nil))))), ?_⟩
  refine ⟨l, zs, rfl, hl, fewz, fun n n1 n2 => ?_⟩
  refine .inl ⟨_, hl.symm, ?_⟩
  rw [List.length_map]
  refine ite2 (fun c => ?_) (fun c => ?_)
  · have c : (n : Int) < zs.length := of_decide_eq_true c
    have z := q H (Same.refl H)
    unfold keysFit at z
    rw [decide_eq_false fun h => by have := n2.mpr h; omega] at z
    exact z
  have nd : zs.Nodup := n2.mp (by have c : ¬ (n : Int) < zs.length := of_decide_eq_false (Bool.eq_false_iff.mpr c); omega)
  have turn : ∀ (D : Addr) (nD : H D = none) (i : Nat) (z : Str) (H1 : Hp) (_ : zs[i]? = some z) (_ : PvP H D (mapF zs fun z => .bl (decide (lo z ∈ ps))) i H1), (2 ≤ sizeLine ∧ ∀ u, H1 u = none → ∃ (p : Stp) (l : Addr) (vs : List V) (ps' : List Stp), PairAt K (upd H1 u (.tup [.str "look", .str z])) (.ref u) p ∧ (V.ref t : V) = .ref l ∧ (SqT K (upd H1 u (.tup [.str "look", .str z])) l vs ∨ SqL K (upd H1 u (.tup [.str "look", .str z])) l vs) ∧ PairsIn K (upd H1 u (.tup [.str "look", .str z])) vs ps' ∧
      ∃ acc, (upd H1 u (.tup [.str "look", .str z])) D = some (.lst acc) ∧ acc.length < sizeLine ∧ PvP H D (mapF zs fun z => .bl (decide (lo z ∈ ps))) (i + 1) (upd (upd H1 u (.tup [.str "look", .str z])) D (.lst (acc ++ [.bl (decide (p ∈ ps'))])))) := fun D nD i z H1 e pv => by
    refine ⟨by decide, fun u nu => ?_⟩
    have s2 := same_new (o := .tup [.str "look", .str z]) nu
    obtain ⟨vs, ht1, hp1⟩ := ht.same (pv.1.trans s2)
    exact ⟨lo z, t, vs, ps, pair_new, rfl, .inl ht1, hp1, pvp_put nD pv s2 (mapF_put e) (Nat.lt_of_le_of_lt mapF_len (by omega))⟩
  have done : ∀ (D : Addr) (H1 : Hp), PvP H D (mapF zs fun z => .bl (decide (lo z ∈ ps))) zs.length H1 → ∃ a bs, ([V.ref D] : List V) = [.ref a] ∧ SqL K H1 a (List.map V.bl bs) ∧ Q (.bl (bs.all id)) H1 := fun D H1 ⟨sm, hD⟩ => by
    rw [mapF_all rfl] at hD
    have z := q _ sm
    unfold keysFit at z
    rw [decide_eq_true nd, Bool.true_and] at z
    refine ⟨D, zs.map fun z => decide (lo z ∈ ps), rfl, SqL.of (by rw [hD, List.map_map]; rfl), ?_⟩
    rw [List.all_map]
    exact z
  have at_ : ∀ {i : Nat} {v : V}, (zs.map V.str)[i]? = some v → ∃ z, zs[i]? = some z ∧ v = .str z := fun e => by
    rw [List.getElem?_map] at e
    obtain ⟨z, e2, e3⟩ := Option.map_eq_some_iff.mp e
    exact ⟨z, e2, e3.symm⟩
  rcases hl with hl | hl
  · refine ⟨l, _, rfl, .inr ⟨hl, fun D nD => ?_⟩⟩
    refine lc_it (walk_tup (xs := zs.map V.str)) (PvP H D (mapF zs fun z => .bl (decide (lo z ∈ ps)))) (pvp_start nD rfl) (fun _ _ _ h => SqT.same hl h.1) ?_ ?_
    · rintro i v H1 H2 hi pv ⟨rfl, hv⟩
      obtain ⟨z, e, rfl⟩ := at_ hv
      exact ⟨rfl, turn D nD i z _ e pv⟩
    · intro H1 pv
      rw [List.length_map] at pv
      exact done D H1 pv
  · refine ⟨l, _, rfl, .inl ⟨hl, fun D nD => ?_⟩⟩
    refine lc_it (walk_list (xs := zs.map V.str)) (PvP H D (mapF zs fun z => .bl (decide (lo z ∈ ps)))) (pvp_start nD rfl) (fun _ _ _ h => h.1.seq hl) ?_ ?_
    · rintro i v H1 H2 hi pv ⟨rfl, hv⟩
      obtain ⟨z, e, rfl⟩ := at_ hv
      exact ⟨rfl, turn D nD i z _ e pv⟩
    · intro H1 pv
      rw [List.length_map] at pv
      exact done D H1 pv
/-! ### Plan.__init__ -/
def planNames (ps : List Stp) (lk kp : List Str) : List Str := ps.map (·.2) ++ lk ++ kp
def bad1 (zs : List Str) : Option Str := zs.find? fun z => !isName z
def planFits (ps : List Stp) (lk kp : List Str) : Bool := stepsFit ps && keysFit ps lk && keysFit ps kp
def among (ps : List Stp) (zs : List Str) : List Str := (looked ps).filter fun z => decide (z ∈ zs)
def PlanOut (K : PySem.W.Frag) (H : Hp) (x C dx : Addr) (ps : List Stp) (lk kp : List Str) (Q : VK) (E : XK) : Prop := match bad1 (planNames ps lk kp) with
  | some z => ∀ (B d : Addr) (H' : Hp), PySem.W.nsIn K mainGlobals "BadName" = some (some (.ref B)) → Bt x H H' → H d = none → H' d = some (.xd [("name", .str z)]) → E (.ref B) (some d) H'
  | none => if planFits ps lk kp = true then ∀ (H' : Hp), Bt x H H' → PlAt K H' x ps (among ps lk) (among ps kp) → (∃ fs, H' x = some (.ins C dx fs)) → Q .non H'
    else ∀ (B : Addr) (H' : Hp), PySem.W.nsIn K mainGlobals "BadPlan" = some (some (.ref B)) → Bt x H H' → E (.ref B) none H'
/-- a row of steps in a list -/
def StL (K : PySem.W.Frag) (H : Hp) (t : Addr) (ps : List Stp) : Prop := ∃ vs, SqL K H t vs ∧ PairsIn K H vs ps
theorem sqL_ins {K : PySem.W.Frag} {H H' : Hp} {a x C dx : Addr} {xs : List V} {fs : List (Str × V)} (h : SqL K H a xs) (hx : H x = some (.ins C dx fs)) (s : Bt x H H') : SqL K H' a xs := by
  rcases h with (h | ⟨o, h⟩) | h
  · exact .inl (.inl (s _ _ (fun e => by rw [e, hx] at h; cases h) h))
  · exact .inl (.inr ⟨o, s _ _ (fun e => by rw [e, hx] at h; cases h) h⟩)
  · exact .inr h
theorem txS_bt {K : PySem.W.Frag} {H H' : Hp} {a x C dx : Addr} {zs : List Str} {fs : List (Str × V)} (h : TxS K H a zs) (hx : H x = some (.ins C dx fs)) (s : Bt x H H') : TxS K H' a zs := h.imp (fun h => SqT.bt h (NT.ins hx) s) (fun h => sqL_ins h hx s)
theorem looked_len {ps : List Stp} : (looked ps).length ≤ ps.length := by
  unfold looked
  rw [List.length_map]
  exact List.length_filter_le _ _
def sp_Plan___init__ (K : PySem.W.Frag) : Sp := fun vs H Q E => ∃ (x t l k C dx : Addr) (ps : List Stp) (lk kp : List Str), vs = [.ref x, .ref t, .ref l, .ref k] ∧ PySem.W.nsIn K mainGlobals "Plan" = some (some (.ref C)) ∧ H x = some (.ins C dx []) ∧ StL K H t ps ∧ TxS K H l lk ∧ TxS K H k kp ∧
  ps.length < 64 ∧ lk.length < 64 ∧ kp.length < 64 ∧ (∀ z ∈ planNames ps lk kp, z.length ≤ 1000 ∧ Asc z) ∧ PlanOut K H x C dx ps lk kp Q E
theorem len_Plan___init__ {vs : List V} {H : Hp} {Q : VK} {E : XK} (h : sp_Plan___init__ K vs H Q E) : vs.length = 4 := by
  obtain ⟨_, _, _, _, _, _, _, _, _, rfl, _⟩ := h
  rfl
theorem bad_none {zs : List Str} (h : ∀ z ∈ zs, isName z = true) : bad1 zs = none := by
  unfold bad1
  rw [List.find?_eq_none]
  intro z hz
  rw [h z hz]
  decide
theorem bad_at {zs : List Str} {i : Nat} {z : Str} (h : ∀ y ∈ zs.take i, isName y = true) (e : zs[i]? = some z) (hz : ¬ isName z = true) : bad1 zs = some z := by
  have e1 : zs = zs.take i ++ zs.drop i := (List.take_append_drop i zs).symm
  obtain ⟨hi, e2⟩ := List.getElem?_eq_some_iff.mp e
  have e3 : zs.drop i = z :: zs.drop (i + 1) := by rw [List.drop_eq_getElem_cons hi, e2]
  unfold bad1
  rw [e1, List.find?_append, e3]
  have n := bad_none h
  unfold bad1 at n
  rw [n, List.find?_cons_of_pos (by rw [Bool.eq_false_iff.mpr hz]; rfl)]
  rfl
theorem ok_Plan___init__ {f : Addr} {fd : FuncData} {kws : List (Str × V)} {f_check_name : Addr} {fd_check_name : FuncData} {f_steps_fit : Addr} {fd_steps_fit : FuncData} {f_keys_fit : Addr} {fd_keys_fit : FuncData} {f_looked_at : Addr} {fd_looked_at : FuncData} {f_BadPlan : Addr} {fd_BadPlan : FuncData} (F : FunD K "__init__" "Plan.__init__" (defArgs s_Plan___init__) (defBody s_Plan___init__) (defScope s_Plan___init__) [] kws f fd) (T : Gs K mg t_LETTERS t_LONGEST_NAME a_DEEDS a_RESERVED a_BadName a_BadPlan a_Plan) (c_check_name : Cal P w K mg base (L2.CX P w) 3 "check_name" f_check_name fd_check_name ["text"] (sp_check_name K)) (c_steps_fit : Cal P w K mg base CX0 2 "steps_fit" f_steps_fit fd_steps_fit ["steps"] (sp_steps_fit K)) (c_keys_fit : Cal P w K mg base CX0 1 "keys_fit" f_keys_fit fd_keys_fit ["steps", "names"] (sp_keys_fit K)) (c_looked_at : Cal P w K mg base CX0 1 "looked_at" f_looked_at fd_looked_at ["steps"] (sp_looked_at K)) (c_BadPlan : CalE0 P w K mg base 1 "BadPlan" a_BadPlan f_BadPlan fd_BadPlan ["self"]) : FnOk P w K mg base (L2.CX P w) 4 f fd ["self", "steps", "locked", "kept"] (sp_Plan___init__ K) := by
  refine F.ok (CX := (L2.CX P w)) sc_Plan___init__ (fun vs H Q E h => len_Plan___init__ h) (fun cdv A outer s H vs Q E hr h => ?_)
  obtain ⟨x, t, l, k, C, dx, ps, lk, kp, rfl, hC, hx, ⟨vs, ht, hp⟩, hl, hk, few, fl, fk, hz, q⟩ := h
  cases hC.symm.trans T.n_Plan
  refine ⟨_, (pss_cons (ps_fld (v_ 0) (pe_callTy (tupleK K) (by rfl) T.z_tuple (by decide +kernel) (pa_cons (pe_lc (own := [("deed", 5), ("key", 4)]) (g := gTup K 2 (gCons (gName 5) (gCons (gName 4) gNil))) (by rfl) sc_Plan___init__.nd (pi_list (v_ 1)) (blkOk_by (N := ["self", "steps", "locked", "kept", "key", "deed", "_"]) (sc := defScope s_Plan___init__) (by decide +kernel)) (fun _ _ _ _ _ => pg_tupK K (by rfl) (pgs_cons (pg_name (i := 5) sc_Plan___init__.nd rfl (Or.inl rfl)) (pgs_cons (pg_name (i := 4) sc_Plan___init__.nd rfl (Or.inl rfl)) pgs_nil))) (fun _ _ _ _ _ => pts_nil) (fun _ _ _ _ _ => (pe_tup (pa_cons (v_ 5) (pa_cons (v_ 4) pa_nil))))) pa_nil)) (by rfl)) (pss_cons (ps_for (passes_of rfl) rfl (pi_tup (pe_tup (StX.pa_star (pe_lc (own := [("_", 6), ("key", 4)]) (g := gTup K 2 (gCons (gName 6) (gCons (gName 4) gNil))) (by rfl) sc_Plan___init__.nd (pi_tup (e_f K (v_ 0))) (blkOk_by (N := ["self", "steps", "locked", "kept", "key", "deed", "_"]) (sc := defScope s_Plan___init__) (by decide +kernel)) (fun _ _ _ _ _ => pg_tupK K (by rfl) (pgs_cons (pg_name (i := 6) sc_Plan___init__.nd rfl (Or.inl rfl)) (pgs_cons (pg_name (i := 4) sc_Plan___init__.nd rfl (Or.inl rfl)) pgs_nil))) (fun _ _ _ _ _ => pts_nil) (fun _ _ _ _ _ => (v_ 4))) (StX.pa_star (v_ 2) (StX.pa_star (v_ 3) pa_nil))))) (pg_name (i := 4) sc_Plan___init__.nd rfl (.inl rfl)) (pss_one (ps_expr (pe_call c_check_name.G (hr.mono (by first | decide | omega)) rfl c_check_name.m c_check_name.kp c_check_name.b .nil (passes_call (takes_of rfl rfl rfl rfl) (fun _ _ _ _ h => h)) (pa_cons (v_ 4) pa_nil))))) (pss_cons (ps_if (PW.pt (pw_or (pt_not (pt_t K (pe_call c_steps_fit.G (hr.mono (by first | decide | omega)) rfl c_steps_fit.m c_steps_fit.kp c_steps_fit.b .nil pass0 (pa_cons (e_f K (v_ 0)) pa_nil)))) (pw_or (pt_not (pt_t K (pe_call c_keys_fit.G (hr.mono (by first | decide | omega)) rfl c_keys_fit.m c_keys_fit.kp c_keys_fit.b .nil pass0 (pa_cons (e_f K (v_ 0)) (pa_cons (v_ 2) pa_nil))))) (pw_or1 (pt_not (pt_t K (pe_call c_keys_fit.G (hr.mono (by first | decide | omega)) rfl c_keys_fit.m c_keys_fit.kp c_keys_fit.b .nil pass0 (pa_cons (e_f K (v_ 0)) (pa_cons (v_ 3) pa_nil))))))))) (pss_one (ps_raise rfl (takes_of rfl rfl rfl rfl) (pmk_none c_BadPlan.X.oex c_BadPlan.X.iC c_BadPlan.X.tI c_BadPlan.G (hr.mono (by first | decide | omega)) c_BadPlan.b pass0 rfl c_BadPlan.m))) pss_nil) (pss_cons (ps_fld (v_ 0) (pe_callTy (tupleK K) (by rfl) T.z_tuple (by decide +kernel) (pa_cons (pe_lc (own := [("key", 4)]) (g := gName 4) (by rfl) sc_Plan___init__.nd (pi_tup (pe_call c_looked_at.G (hr.mono (by first | decide | omega)) rfl c_looked_at.m c_looked_at.kp c_looked_at.b .nil pass0 (pa_cons (e_f K (v_ 0)) pa_nil))) (blkOk_by (N := ["self", "steps", "locked", "kept", "key", "deed", "_"]) (sc := defScope s_Plan___init__) (by decide +kernel)) (fun _ _ _ _ _ => pg_name (i := 4) sc_Plan___init__.nd rfl (Or.inl rfl)) (fun _ _ _ _ _ => pts_one (pt_c (inK K) (v_ 4) (v_ 2))) (fun _ _ _ _ _ => (v_ 4))) pa_nil)) (by rfl)) (pss_one (ps_fld (v_ 0) (pe_callTy (tupleK K) (by rfl) T.z_tuple (by decide +kernel) (pa_cons (pe_lc (own := [("key", 4)]) (g := gName 4) (by rfl) sc_Plan___init__.nd (pi_tup (pe_call c_looked_at.G (hr.mono (by first | decide | omega)) rfl c_looked_at.m c_looked_at.kp c_looked_at.b .nil pass0 (pa_cons (e_f K (v_ 0)) pa_nil))) (blkOk_by (N := ["self", "steps", "locked", "kept", "key", "deed", "_"]) (sc := defScope s_Plan___init__) (by decide +kernel)) (fun _ _ _ _ _ => pg_name (i := 4) sc_Plan___init__.nd rfl (Or.inl rfl)) (fun _ _ _ _ _ => pts_one (pt_c (inK K) (v_ 4) (v_ 3))) (fun _ _ _ _ _ => (v_ 4))) pa_nil)) (by rfl))))))), ?_⟩
  have vl := pairs_len hp
  refine ⟨t, rfl, ⟨_, ht⟩, fun D nD => ?_⟩
  -- the steps anew
  refine lc_it (walk_list (xs := vs)) (fun i H' => Same H H' ∧ ∃ us, H' D = some (.lst us) ∧ PairsIn K H' us (ps.take i)) ⟨same_new nD, [], upd_same, .nil⟩ (fun _ _ _ h => h.1.seq ht) ?_ ?_
  · rintro i v H1 H2 hi ⟨sm, us, hD, hus⟩ ⟨rfl, hv⟩
    obtain ⟨⟨d, z⟩, e, r, rfl, hr⟩ := pairs_at (pairs_same hp sm) hv
    refine ⟨r, _, rfl, hr, rfl, _, _, rfl, _, _, rfl, rfl, rfl, ?_⟩
    refine ⟨(by show 2 ≤ sizeLine; decide), fun u nu => ?_⟩
    have s2 := same_new (o := .tup [.str d, .str z]) nu
    have ul := pairs_len hus
    rw [List.length_take] at ul
    refine ⟨us, s2 _ _ hD, line_lt (by omega), fun b o hb => by rw [upd_ne (ne_of_none hb nD)]; exact s2 _ _ (sm _ _ hb), us ++ [.ref u], upd_same, ?_⟩
    have uD : u ≠ D := (ne_of_none hD nu).symm
    rw [take_snoc e]
    refine pairs_snoc (pairs_bt (pairs_same hus s2) (NT.lst ⟨_, s2 _ _ hD⟩) Bt.st) ⟨u, rfl, SqT.of ?_⟩
    rw [upd_ne uD, upd_same]
  rintro H1 ⟨s1, us, hD, hus⟩
  rw [vl, List.take_length] at hus
  refine ⟨D, us, rfl, .inl ⟨SqL.of hD, fun w nw => ?_⟩⟩
  have hxw : (upd H1 w (.tup us)) x = some (.ins a_Plan dx []) := by
    rw [upd_ne (ne_of_none (s1 _ _ hx) nw)]
    exact s1 _ _ hx
  refine ⟨x, a_Plan, dx, [], rfl, hxw, T.cl_Plan, T.na_Plan_steps, by decide, ?_⟩
  have b2 : Bt x H (upd (upd H1 w (.tup us)) x (.ins a_Plan dx [("steps", .ref w)])) := (Bt.same (s1.trans (same_new nw))).trans Bt.st
  have hx2 : (upd (upd H1 w (.tup us)) x (.ins a_Plan dx [("steps", .ref w)])) x = some (.ins a_Plan dx [("steps", .ref w)]) := upd_same
  have st2 : StT K (upd (upd H1 w (.tup us)) x (.ins a_Plan dx [("steps", .ref w)])) w ps := by
    have z := same_new (o := .tup us) nw
    exact ⟨us, SqT.bt (SqT.of upd_same) (NT.ins hxw) Bt.st, pairs_bt (pairs_same hus z) (NT.ins hxw) Bt.st⟩
  have hl2 := txS_bt hl hx b2
  have hk2 := txS_bt hk hx b2
  show (fun H2 => _) (upd (upd H1 w (.tup us)) x (.ins a_Plan dx [("steps", .ref w)]))
  generalize upd (upd H1 w (.tup us)) x (.ins a_Plan dx [("steps", .ref w)]) = H2 at b2 hx2 st2 hl2 hk2 ⊢
  clear hxw hD hus nw s1
  -- the names
  obtain ⟨us, hw, hus⟩ := id st2
  have ul := pairs_len hus
  refine ⟨x, a_Plan, dx, _, _, rfl, hx2, T.cl_Plan, T.na_Plan_steps, rfl, w, rfl, ⟨_, hw⟩, fun D nD => ?_⟩
  refine lc_it (walk_tup (xs := us)) (PvP H2 D (mapF ps fun p => .str p.2)) (pvp_start nD rfl) (fun _ _ _ h => SqT.same hw h.1) ?_ ?_
  · rintro i v H3 H4 hi pv ⟨rfl, hv⟩
    obtain ⟨⟨d, z⟩, e, r, rfl, hr⟩ := pairs_at (pairs_same hus pv.1) hv
    refine ⟨r, _, rfl, hr, rfl, _, _, rfl, _, _, rfl, rfl, rfl, ?_⟩
    exact pvp_put nD pv (Same.refl _) (mapF_put e) (Nat.lt_of_le_of_lt mapF_len (by omega))
  rintro H3 ⟨s3, hD⟩
  rw [mapF_all ul] at hD
  refine ⟨D, _, rfl, .inr (SqL.of hD), ?_⟩
  refine ⟨l, _, rfl, TxS.same hl2 s3, ?_⟩
  refine ⟨k, _, rfl, TxS.same hk2 s3, ?_⟩
  have lN : (planNames ps lk kp).length = ps.length + lk.length + kp.length := by
    unfold planNames
    rw [List.length_append, List.length_append, List.length_map]
  have eN : ps.map (fun p => V.str p.2) ++ (lk.map V.str ++ (kp.map V.str ++ [])) = (planNames ps lk kp).map V.str := by
    unfold planNames
    rw [List.map_append, List.map_append, List.map_map, List.append_nil, List.append_assoc]
    rfl
  refine ⟨by rw [eN, List.length_map]; exact line_of (by omega), fun p np => ?_⟩
  have s4 := s3.trans (same_new (o := .tup (ps.map (fun p => V.str p.2) ++ (lk.map V.str ++ (kp.map V.str ++ [])))) np)
  have hp4 : (upd H3 p (.tup (ps.map (fun p => V.str p.2) ++ (lk.map V.str ++ (kp.map V.str ++ []))))) p = some (.tup (ps.map (fun p => V.str p.2) ++ (lk.map V.str ++ (kp.map V.str ++ [])))) := upd_same
  generalize upd H3 p (.tup (ps.map (fun p => V.str p.2) ++ (lk.map V.str ++ (kp.map V.str ++ [])))) = H4 at s4 hp4 ⊢
  rw [eN] at hp4
  refine ⟨p, rfl, ⟨_, SqT.of hp4⟩, ?_⟩
  refine for_tup (K := K) (a := p) (xs := (planNames ps lk kp).map V.str) (fun i σ' H' => (∃ y, σ' = [some (.ref x), some (.ref t), some (.ref l), some (.ref k), y, none, none]) ∧ Same H4 H' ∧ ∀ y ∈ (planNames ps lk kp).take i, isName y = true) ⟨⟨_, rfl⟩, Same.refl _, fun _ h => nomatch h⟩ (fun i σ' H' _ h => SqT.of (h.2.1 _ _ hp4)) ?_ ?_
  · rintro i v σ' H5 hi ⟨⟨y, rfl⟩, sm, hn⟩
    rw [List.getElem?_map] at hi
    obtain ⟨z, ez, rfl⟩ := Option.map_eq_some_iff.mp hi
    obtain ⟨z1, z2⟩ := hz z (List.mem_of_getElem? ez)
    refine ⟨z, rfl, z1, z2, ?_⟩
    by_cases hnz : isName z = true
    · rw [if_pos hnz]
      refine fun H6 s6 => ⟨⟨_, rfl⟩, sm.trans s6, fun y hy => ?_⟩
      rw [take_snoc ez] at hy
      rcases List.mem_append.mp hy with h | h
      · exact hn y h
      · rw [List.mem_singleton.mp h]
        exact hnz
    · rw [if_neg hnz]
      unfold PlanOut at q
      rw [bad_at hn ez hnz] at q
      refine fun B d H6 hB s6 nd hd => q B d H6 hB (b2.trans (Bt.same ((s4.trans sm).trans s6))) ?_ hd
      refine Bt.free (b2.trans (Bt.same (s4.trans sm))) (fun e => ?_) nd
      rw [e, (s4.trans sm) _ _ hx2] at nd
      cases nd
  rintro σ' H5 ⟨⟨y, rfl⟩, sm, hn⟩
  rw [List.length_map, List.take_length] at hn
  have s5 := s4.trans sm
  clear s4 sm s3 hD hp4 np
  unfold PlanOut at q
  rw [bad_none hn] at q
  have raise : ∀ H6, Same H2 H6 → planFits ps lk kp = false → ∀ (B : Addr) (H' : Hp), PySem.W.nsIn K mainGlobals "BadPlan" = some (some (.ref B)) → Same H6 H' → E (.ref B) none H' := fun H6 s6 e B H' hB s7 => by
    rw [e] at q
    exact q B H' hB (b2.trans (Bt.same (s6.trans s7)))
  refine ⟨x, a_Plan, dx, _, _, rfl, s5 _ _ hx2, T.cl_Plan, T.na_Plan_steps, rfl, w, ps, rfl, st2.same s5, few, fun H6 s6 => ?_⟩
  have s6 := s5.trans s6
  refine ite2 (fun c => ?_) (fun c => ?_)
  · have c : stepsFit ps = false := by simpa using c
    exact raise H6 s6 (by unfold planFits; rw [c]; rfl) _ _ T.n_BadPlan (Same.refl _)
  have f1 : stepsFit ps = true := by simpa using c
  refine ⟨x, a_Plan, dx, _, _, rfl, s6 _ _ hx2, T.cl_Plan, T.na_Plan_steps, rfl, w, l, ps, lk, rfl, st2.same s6, TxS.same hl2 s6, few, fl, fun H7 s7 => ?_⟩
  have s7 := s6.trans s7
  refine ite2 (fun c => ?_) (fun c => ?_)
  · have c : keysFit ps lk = false := by simpa using c
    exact raise H7 s7 (by unfold planFits; rw [c, Bool.and_false, Bool.false_and]) _ _ T.n_BadPlan (Same.refl _)
  have f2 : keysFit ps lk = true := by simpa using c
  refine ⟨x, a_Plan, dx, _, _, rfl, s7 _ _ hx2, T.cl_Plan, T.na_Plan_steps, rfl, w, k, ps, kp, rfl, st2.same s7, TxS.same hk2 s7, few, fk, fun H8 s8 => ?_⟩
  have s8 := s7.trans s8
  refine ite2 (fun c => ?_) (fun c => ?_)
  · have c : keysFit ps kp = false := by simpa using c
    exact raise H8 s8 (by unfold planFits; rw [c, Bool.and_false]) _ _ T.n_BadPlan (Same.refl _)
  have f3 : keysFit ps kp = true := by simpa using c
  have good : planFits ps lk kp = true := by
    unfold planFits
    rw [f1, f2, f3]
    rfl
  rw [good] at q
  have q : ∀ (H' : Hp), Bt x H H' → PlAt K H' x ps (among ps lk) (among ps kp) → (∃ fs, H' x = some (.ins a_Plan dx fs)) → Q .non H' := q
  clear raise hn s5 s6 s7
  -- what is locked
  refine ⟨x, a_Plan, dx, _, _, rfl, s8 _ _ hx2, T.cl_Plan, T.na_Plan_steps, rfl, w, ps, rfl, st2.same s8, few, fun H5 r5 s5 nr5 hr5 => ?_⟩
  refine ⟨r5, rfl, ⟨_, SqT.of hr5⟩, fun D5 nD5 => ?_⟩
  refine lc_it (walk_tup (xs := (looked ps).map V.str)) (PvP H5 D5 (keepF (looked ps) (fun z => decide (z ∈ lk)) V.str)) (pvp_start nD5 rfl) (fun _ _ _ h => SqT.of (h.1 _ _ hr5)) ?_ ?_
  · rintro i v H6 H7 hi pv ⟨rfl, hv⟩
    rw [List.getElem?_map] at hv
    obtain ⟨z, e, rfl⟩ := Option.map_eq_some_iff.mp hv
    refine ⟨rfl, ?_⟩
    refine ⟨_, (TxS.same hl2 (s8.trans (s5.trans pv.1))).symm, rfl, flat_strs, ?_⟩
    rw [List.length_map] at hi
    refine ite2 (fun c => ?_) (fun c => ?_)
    · exact pvp_put nD5 pv (Same.refl _) (keepF_put e (inV_str.symm.trans c)) (Nat.lt_of_le_of_lt keepF_len (Nat.lt_of_le_of_lt looked_len (by omega)))
    · exact pvp_skip pv (Same.refl _) (keepF_skip e fun h => c (inV_str.trans h))
  rintro H6 ⟨s6, hD6⟩
  rw [keepF_all (by rw [List.length_map])] at hD6
  refine ⟨D5, _, rfl, .inl ⟨SqL.of hD6, fun w2 nw2 => ?_⟩⟩
  have s7 : Same H2 (upd H6 w2 (.tup (List.map V.str (List.filter (fun z => decide (z ∈ lk)) (looked ps))))) := (s8.trans (s5.trans s6)).trans (same_new nw2)
  have hx7 := s7 _ _ hx2
  refine ⟨x, a_Plan, dx, _, rfl, hx7, T.cl_Plan, T.na_Plan_locked, (by show 1 < 1000; decide), ?_⟩
  have st7 := st2.same s7
  have hk7 := TxS.same hk2 s7
  have hw7 : TxT K (upd H6 w2 (.tup (List.map V.str (List.filter (fun z => decide (z ∈ lk)) (looked ps))))) w2 (among ps lk) := SqT.of upd_same
  generalize upd H6 w2 (.tup (List.map V.str (List.filter (fun z => decide (z ∈ lk)) (looked ps)))) = H7 at s7 hx7 st7 hk7 hw7 ⊢
  have b9 : Bt x H (upd H7 x (.ins a_Plan dx [("steps", .ref w), ("locked", .ref w2)])) := (b2.trans (Bt.same s7)).trans Bt.st
  have hx9 : (upd H7 x (.ins a_Plan dx [("steps", .ref w), ("locked", .ref w2)])) x = some (.ins a_Plan dx [("steps", .ref w), ("locked", .ref w2)]) := upd_same
  have st9 : StT K (upd H7 x (.ins a_Plan dx [("steps", .ref w), ("locked", .ref w2)])) w ps := st7.bt (NT.ins hx7) Bt.st
  have hk9 : TxS K (upd H7 x (.ins a_Plan dx [("steps", .ref w), ("locked", .ref w2)])) k kp := txS_bt hk7 hx7 Bt.st
  have hw9 : TxT K (upd H7 x (.ins a_Plan dx [("steps", .ref w), ("locked", .ref w2)])) w2 (among ps lk) := SqT.bt hw7 (NT.ins hx7) Bt.st
  show (fun H9 => _) (upd H7 x (.ins a_Plan dx [("steps", .ref w), ("locked", .ref w2)]))
  generalize upd H7 x (.ins a_Plan dx [("steps", .ref w), ("locked", .ref w2)]) = H9 at b9 hx9 st9 hk9 hw9 ⊢
  clear st7 hk7 hw7 hx7 s7 s8 nw2 hD6 s6 s5 nD5 hr5 nr5
  -- what is kept
  refine ⟨x, a_Plan, dx, _, _, rfl, hx9, T.cl_Plan, T.na_Plan_steps, rfl, w, ps, rfl, st9, few, fun H5 r5 s5 nr5 hr5 => ?_⟩
  refine ⟨r5, rfl, ⟨_, SqT.of hr5⟩, fun D5 nD5 => ?_⟩
  refine lc_it (walk_tup (xs := (looked ps).map V.str)) (PvP H5 D5 (keepF (looked ps) (fun z => decide (z ∈ kp)) V.str)) (pvp_start nD5 rfl) (fun _ _ _ h => SqT.of (h.1 _ _ hr5)) ?_ ?_
  · rintro i v H6 H7 hi pv ⟨rfl, hv⟩
    rw [List.getElem?_map] at hv
    obtain ⟨z, e, rfl⟩ := Option.map_eq_some_iff.mp hv
    refine ⟨rfl, ?_⟩
    refine ⟨_, (TxS.same hk9 (s5.trans pv.1)).symm, rfl, flat_strs, ?_⟩
    rw [List.length_map] at hi
    refine ite2 (fun c => ?_) (fun c => ?_)
    · exact pvp_put nD5 pv (Same.refl _) (keepF_put e (inV_str.symm.trans c)) (Nat.lt_of_le_of_lt keepF_len (Nat.lt_of_le_of_lt looked_len (by omega)))
    · exact pvp_skip pv (Same.refl _) (keepF_skip e fun h => c (inV_str.trans h))
  rintro H6 ⟨s6, hD6⟩
  rw [keepF_all (by rw [List.length_map])] at hD6
  refine ⟨D5, _, rfl, .inl ⟨SqL.of hD6, fun w3 nw3 => ?_⟩⟩
  have s7 : Same H9 (upd H6 w3 (.tup (List.map V.str (List.filter (fun z => decide (z ∈ kp)) (looked ps))))) := (s5.trans s6).trans (same_new nw3)
  have hx7 := s7 _ _ hx9
  refine ⟨x, a_Plan, dx, _, rfl, hx7, T.cl_Plan, T.na_Plan_kept, (by show 2 < 1000; decide), ?_⟩
  have st7 := st9.same s7
  have hl7 : TxT K (upd H6 w3 (.tup (List.map V.str (List.filter (fun z => decide (z ∈ kp)) (looked ps))))) w2 (among ps lk) := SqT.same hw9 s7
  have hw7 : TxT K (upd H6 w3 (.tup (List.map V.str (List.filter (fun z => decide (z ∈ kp)) (looked ps))))) w3 (among ps kp) := SqT.of upd_same
  generalize upd H6 w3 (.tup (List.map V.str (List.filter (fun z => decide (z ∈ kp)) (looked ps)))) = H7 at s7 hx7 st7 hl7 hw7 ⊢
  exact q _ ((b9.trans (Bt.same s7)).trans Bt.st) ⟨a_Plan, dx, w, w2, w3, T.n_Plan, upd_same, st7.bt (NT.ins hx7) Bt.st, SqT.bt hl7 (NT.ins hx7) Bt.st, SqT.bt hw7 (NT.ins hx7) Bt.st⟩ ⟨_, upd_same⟩
/-- what making a plan at x comes to -/
def PlOut (K : PySem.W.Frag) (H : Hp) (x : Addr) (ps : List Stp) (lk kp : List Str) (Q : VK) (E : XK) : Prop := match bad1 (planNames ps lk kp) with
  | some z => BadN K H z E
  | none => if planFits ps lk kp = true then ∀ (H' : Hp), Same H H' → PlAt K H' x ps (among ps lk) (among ps kp) → Q .non H' else BadP K H E
theorem made_plan {K : PySem.W.Frag} {H : Hp} {C t l k x dx : Addr} {ps : List Stp} {lk kp : List Str} {Q : VK} {E : XK} (nx : H x = none) (nd : H dx = none) (ne : dx ≠ x) (hC : PySem.W.nsIn K mainGlobals "Plan" = some (some (.ref C))) (ht : StL K H t ps) (hl : TxS K H l lk) (hk : TxS K H k kp)
    (few : ps.length < 64) (fl : lk.length < 64) (fk : kp.length < 64) (hz : ∀ z ∈ planNames ps lk kp, z.length ≤ 1000 ∧ Asc z) (q : PlOut K H x ps lk kp Q E) :
    sp_Plan___init__ K [.ref x, .ref t, .ref l, .ref k] (upd (upd H dx (.own x)) x (.ins C dx [])) Q E := by
  have sm : Same H (upd (upd H dx (.own x)) x (.ins C dx [])) := fun b o hb => by
    rw [upd_ne (ne_of_none hb nx), upd_ne (ne_of_none hb nd)]
    exact hb
  have after : ∀ {H' : Hp}, Bt x (upd (upd H dx (.own x)) x (.ins C dx [])) H' → Same H H' := fun {H'} k b o hb => k b o (ne_of_none hb nx) (sm _ _ hb)
  obtain ⟨vs, h1, h2⟩ := ht
  refine ⟨x, t, l, k, C, dx, ps, lk, kp, rfl, hC, upd_same, ⟨vs, sm.seq h1, pairs_same h2 sm⟩, TxS.same hl sm, TxS.same hk sm, few, fl, fk, hz, ?_⟩
  unfold PlOut at q
  unfold PlanOut
  cases hb : bad1 (planNames ps lk kp) with
  | some z =>
    rw [hb] at q
    exact fun B d H' hB k nd' hd => q B d H' hB (after k) (free_new (free_new nd')) hd
  | none =>
    rw [hb] at q
    by_cases g : planFits ps lk kp = true
    · rw [if_pos g] at q
      show if planFits ps lk kp = true then _ else _
      rw [if_pos g]
      exact fun H' k hp _ => q H' (after k) hp
    · rw [if_neg g] at q
      show if planFits ps lk kp = true then _ else _
      rw [if_neg g]
      exact fun B H' hB k => q B H' hB (after k)
end
section
variable {P : Program} {w : World} {K : PySem.W.Frag} {mg : Str → Option Value} {base : Heap}
variable {t_LETTERS t_LONGEST_NAME : Tok} {a_DEEDS a_RESERVED a_BadName a_BadPlan a_Plan : Addr}
/-! ### what a plan tells of its keys -/
def FirstAt (ps : List Stp) (s : Stp) (n : Nat) : Prop := ps[n]? = some s ∧ ∀ j, j < n → ps[j]? ≠ some s
theorem first_of {ps : List Stp} {s : Stp} (h : s ∈ ps) : ∃ n, FirstAt ps s n := by
  obtain ⟨n, hn, e⟩ := List.getElem_of_mem h
  obtain ⟨k, _, h1, h2⟩ := st_least (p := fun n => ps[n]? = some s) n (by rw [List.getElem?_eq_getElem hn, e])
  exact ⟨k, h1, h2⟩
theorem FirstAt.mem {ps : List Stp} {s : Stp} {n : Nat} (h : FirstAt ps s n) : s ∈ ps := List.mem_of_getElem? h.1
theorem FirstAt.one {ps : List Stp} {s : Stp} {n m : Nat} (h : FirstAt ps s n) (g : FirstAt ps s m) : n = m := by
  rcases Nat.lt_trichotomy n m with c | c | c
  · exact absurd h.1 (g.2 n c)
  · exact c
  · exact absurd g.1 (h.2 m c)
theorem FirstAt.lt {ps : List Stp} {s : Stp} {n : Nat} (h : FirstAt ps s n) : n < ps.length := (List.getElem?_eq_some_iff.mp h.1).1
theorem FirstAt.take {ps : List Stp} {s : Stp} {n : Nat} (h : FirstAt ps s n) (m : Nat) : s ∈ ps.take m ↔ n < m := by
  constructor
  · intro hm
    obtain ⟨j, hj, e⟩ := List.getElem_of_mem hm
    have e : (ps.take m)[j]? = some s := by rw [List.getElem?_eq_getElem hj, e]
    rw [List.length_take] at hj
    rw [List.getElem?_take_of_lt (by omega)] at e
    exact Nat.lt_of_le_of_lt (Nat.le_of_not_lt fun c => h.2 j c e) (by omega)
  · intro hm
    refine List.mem_of_getElem? (i := n) ?_
    rw [List.getElem?_take_of_lt hm]
    exact h.1
def heldAt (ps : List Stp) (k : Str) (n : Nat) : Bool := decide (tk k ∈ ps.take n) && decide (fr k ∉ ps.take n)
def sp_Plan__place (K : PySem.W.Frag) : Sp := fun vs H Q _ => ∃ (a : Addr) (v : V) (s : Stp) (ps : List Stp) (lk kp : List Str) (n : Nat), vs = [.ref a, v] ∧ PairAt K H v s ∧ PlAt K H a ps lk kp ∧ ps.length < 64 ∧ FirstAt ps s n ∧ ∀ H', Same H H' → Q (.int (n : Int)) H'
theorem len_Plan__place {vs : List V} {H : Hp} {Q : VK} {E : XK} (h : sp_Plan__place K vs H Q E) : vs.length = 2 := by
  obtain ⟨_, _, _, _, _, _, _, rfl, _⟩ := h
  rfl
theorem ok_Plan__place {f : Addr} {fd : FuncData} (F : Fun K "_place" "Plan._place" s_Plan__place f fd) (T : Gs K mg t_LETTERS t_LONGEST_NAME a_DEEDS a_RESERVED a_BadName a_BadPlan a_Plan) : FnOk P w K mg base CX0 1 f fd ["self", "step"] (sp_Plan__place K) := by
  refine F.ok sc_Plan__place (fun vs H Q E h => len_Plan__place h) (fun cdv A outer s H vs Q E hr h => ?_)
  obtain ⟨a, v, s, ps, lk, kp, n, rfl, hs, ⟨C, dx, t, l, k, hC, ha, ⟨vs, ht, hp⟩, _, _⟩, few, fst, q⟩ := h
  cases hC.symm.trans T.n_Plan
  refine ⟨_, (pss_one (ps_ret (e_x K (pe_lc (own := [("at", 2), ("other", 3)]) (g := gTup K 2 (gCons (gName 2) (gCons (gName 3) gNil))) (by rfl) sc_Plan__place.nd (pi_enumT (by rfl) T.z_enumerate (pa_cons (e_f K (v_ 0)) pa_nil)) (blkOk_by (N := ["self", "step", "at", "other"]) (sc := defScope s_Plan__place) (by decide +kernel)) (fun _ _ _ _ _ => pg_tupK K (by rfl) (pgs_cons (pg_name (i := 2) sc_Plan__place.nd rfl (Or.inl rfl)) (pgs_cons (pg_name (i := 3) sc_Plan__place.nd rfl (Or.inl rfl)) pgs_nil))) (fun _ _ _ _ _ => pts_one (pt_c (eqP K hr.units) (v_ 3) (v_ 1))) (fun _ _ _ _ _ => (v_ 2))) pe_int))), ?_⟩
  have vl := pairs_len hp
  refine ⟨a, a_Plan, dx, _, _, rfl, ha, T.cl_Plan, T.na_Plan_steps, rfl, t, _, rfl, ht, fun D nD => ?_⟩
  refine lc_it walk_enumT (PvP H D (keepF (List.range ps.length) (fun j => decide (ps[j]? = some s)) fun j : Nat => .int (j : Int))) (pvp_start nD rfl) (fun _ _ _ h => SqT.same ht h.1) ?_ ?_
  · rintro i u H1 H2 hi pv ⟨T1, x, y, rfl, nT, rfl, ex, ey⟩
    cases ex
    have ey : vs[i]? = some y := ey
    obtain ⟨p, ep, hy⟩ := pairs_at (pairs_same hp pv.1) ey
    have s2 := same_new (o := .tup [.int (i : Int), y]) nT
    have at1 : (upd H1 T1 (.tup [.int (i : Int), y])) T1 = some (.tup [.int (i : Int), y]) := upd_same
    have er : (List.range ps.length)[i]? = some i := List.getElem?_range (by omega)
    generalize upd H1 T1 (.tup [.int (i : Int), y]) = H2 at s2 at1 ⊢
    refine ⟨T1, _, rfl, SqT.of at1, rfl, _, _, rfl, _, _, rfl, rfl, rfl, ?_⟩
    refine ⟨p, s, pair_same hy s2, pair_same hs (pv.1.trans s2), ?_⟩
    refine ite2 (fun c => ?_) (fun c => ?_)
    · have c : p = s := of_decide_eq_true c
      exact pvp_put nD pv s2 (keepF_put er (decide_eq_true (by rw [ep, c]))) (Nat.lt_of_le_of_lt keepF_len (by rw [List.length_range]; omega))
    · exact pvp_skip pv s2 (keepF_skip er fun h => c (decide_eq_true (Option.some.inj (ep.symm.trans (of_decide_eq_true h)))))
  rintro H1 ⟨sm, hD⟩
  rw [keepF_all (by rw [List.length_range]; exact vl)] at hD
  refine ⟨_, .inl (SqL.of hD), .int (n : Int), atI_nat (j := 0) ?_, q _ sm⟩
  rw [List.getElem?_map, ← List.head?_eq_getElem?, List.head?_filter, find_range _ fst.lt (decide_eq_true fst.1) (fun j hj => decide_eq_false (fst.2 j hj))]
  rfl
def sp_Plan__holds (K : PySem.W.Frag) : Sp := fun vs H Q _ => ∃ (a : Addr) (v : V) (s : Stp) (k : Str) (ps : List Stp) (lk kp : List Str) (n : Nat), vs = [.ref a, .str k, v] ∧ PairAt K H v s ∧ PlAt K H a ps lk kp ∧ ps.length < 64 ∧ FirstAt ps s n ∧ ∀ H', Same H H' → Q (.bl (heldAt ps k n)) H'
theorem len_Plan__holds {vs : List V} {H : Hp} {Q : VK} {E : XK} (h : sp_Plan__holds K vs H Q E) : vs.length = 3 := by
  obtain ⟨_, _, _, _, _, _, _, _, rfl, _⟩ := h
  rfl
theorem ok_Plan__holds {f : Addr} {fd : FuncData} {f_Plan__place : Addr} {fd_Plan__place : FuncData} (F : Fun K "_holds" "Plan._holds" s_Plan__holds f fd) (T : Gs K mg t_LETTERS t_LONGEST_NAME a_DEEDS a_RESERVED a_BadName a_BadPlan a_Plan) (c_Plan__place : CalM P w K mg base CX0 1 a_Plan "_place" f_Plan__place fd_Plan__place ["self", "step"] (sp_Plan__place K)) : FnOk P w K mg base CX0 2 f fd ["self", "key", "step"] (sp_Plan__holds K) := by
  refine F.ok sc_Plan__holds (fun vs H Q E h => len_Plan__holds h) (fun cdv A outer s H vs Q E hr h => ?_)
  obtain ⟨a, v, s, k, ps, lk, kp, n, rfl, hs, hpl, few, fst, q⟩ := h
  refine ⟨_, (pss_cons (ps_set (i := 3) sc_Plan__holds.nd rfl (.inl rfl) (pe_slice (slK K) (e_f K (v_ 0)) po_none (po_some (pe_meth (v_ 0) c_Plan__place.cl c_Plan__place.me c_Plan__place.G (hr.mono (by first | decide | omega)) c_Plan__place.b .nil pass0 (pa_cons (v_ 2) pa_nil))))) (pss_one (ps_ret (pe_andM (pe_c (inP K hr.units) (pe_tup (pa_cons pe_str (pa_cons (v_ 1) pa_nil))) (v_ 3)) (pe_one (pe_c (notInP K hr.units) (pe_tup (pa_cons pe_str (pa_cons (v_ 1) pa_nil))) (v_ 3))))))), ?_⟩
  obtain ⟨C, dx, t, l, k0, hC, ha, ⟨vs, ht, hp⟩, _, _⟩ := id hpl
  cases hC.symm.trans T.n_Plan
  have vl := pairs_len hp
  refine ⟨a, a_Plan, dx, _, _, rfl, ha, T.cl_Plan, T.na_Plan_steps, rfl, ?_⟩
  refine ⟨a, dx, _, rfl, ha, rfl, a, v, s, ps, lk, kp, n, rfl, hs, hpl, few, fst, fun H1 s1 => ?_⟩
  have whole : ¬ (HT.sIx vs.length 0 none = 0 ∧ HT.sIx vs.length vs.length (some (n : Int)) = vs.length) := by
    have := fst.lt
    rw [HT.sIx_nat]
    omega
  refine ⟨(n : Int), rfl, .inr ⟨t, vs, rfl, SqT.same ht s1, whole, fun u nu => ?_⟩⟩
  rw [cutV_take _ (by omega), show ((n : Int)).toNat = n from rfl]
  have s2 := s1.trans (same_new (o := .tup (vs.take n)) nu)
  have hu : SqT K (upd H1 u (.tup (vs.take n))) u (vs.take n) := SqT.of upd_same
  have hq := pairs_take (pairs_same hp s2) n
  generalize upd H1 u (.tup (vs.take n)) = H2 at s2 hu hq ⊢
  refine ⟨(by show 2 ≤ sizeLine; decide), fun p np => ?_⟩
  have s3 := same_new (o := .tup [.str "take", .str k]) np
  refine ⟨tk k, u, _, _, pair_new, rfl, .inl (SqT.same hu s3), pairs_same hq s3, ?_⟩
  refine ite2 (fun c => ?_) (fun c => ?_)
  · refine ⟨(by show 2 ≤ sizeLine; decide), fun p2 np2 => ?_⟩
    have s4 := s3.trans (same_new (o := .tup [.str "free", .str k]) np2)
    refine ⟨fr k, u, _, _, pair_new, rfl, .inl (SqT.same hu s4), pairs_same hq s4, ?_⟩
    have z := q _ (s2.trans s4)
    unfold heldAt at z
    rw [show decide (tk k ∈ ps.take n) = true from c, Bool.true_and] at z
    exact z
  · have z := q _ (s2.trans s3)
    unfold heldAt at z
    rw [show decide (tk k ∈ ps.take n) = false from Bool.eq_false_iff.mpr c, Bool.false_and] at z
    exact z
/-! ### pairs and waste -/
/-- pairs that a comprehension has made -/
def PvQ (K : PySem.W.Frag) (H1 : Hp) (D : Addr) (acc : List Stp) (H' : Hp) : Prop := Same H1 H' ∧ ∃ us, H' D = some (.lst us) ∧ PairsIn K H' us acc
theorem pvq_start {K : PySem.W.Frag} {H1 : Hp} {D : Addr} (nD : H1 D = none) : PvQ K H1 D [] (upd H1 D (.lst [])) := ⟨same_new nD, [], upd_same, .nil⟩
theorem pvq_put {K : PySem.W.Frag} {H1 H2 H4 : Hp} {D : Addr} {acc : List Stp} {y : V} {q : Stp} (nD : H1 D = none) (p : PvQ K H1 D acc H2) (s : Same H2 H4) (h : PairAt K H4 y q) (l : acc.length < 100000) :
    ∃ a, H4 D = some (.lst a) ∧ a.length < sizeLine ∧ PvQ K H1 D (acc ++ [q]) (upd H4 D (.lst (a ++ [y]))) := by
  obtain ⟨p1, us, e, hu⟩ := p
  have ul := pairs_len hu
  have nt := NT.lst (H := H4) (st := D) ⟨_, s _ _ e⟩
  exact ⟨us, s _ _ e, line_lt (by omega), fun b o hb => by rw [upd_ne (ne_of_none hb nD)]; exact s _ _ (p1 _ _ hb), us ++ [y], upd_same, pairs_snoc (pairs_bt (pairs_same hu s) nt Bt.st) (pair_bt h nt Bt.st)⟩
theorem pvq_skip {K : PySem.W.Frag} {H1 H2 H4 : Hp} {D : Addr} {acc : List Stp} (p : PvQ K H1 D acc H2) (s : Same H2 H4) : PvQ K H1 D acc H4 := by
  obtain ⟨p1, us, e, hu⟩ := p
  exact ⟨p1.trans s, us, s _ _ e, pairs_same hu s⟩
/-- the place of a step -/
def pos (ps : List Stp) (s : Stp) : Nat := ((List.range ps.length).find? fun j => decide (ps[j]? = some s)).getD 0
theorem pos_of {ps : List Stp} {s : Stp} {n : Nat} (h : FirstAt ps s n) : pos ps s = n := by
  unfold pos
  rw [find_range _ h.lt (decide_eq_true h.1) fun j hj => decide_eq_false (h.2 j hj)]
  rfl
def takes (ps : List Stp) : List Str := (ps.filter fun p => decide (p.1 = ("take" : Str))).map (·.2)
theorem takes_mem {ps : List Stp} {k : Str} : k ∈ takes ps ↔ tk k ∈ ps := by
  unfold takes
  rw [List.mem_map]
  constructor
  · rintro ⟨⟨d, j⟩, h, rfl⟩
    obtain ⟨h1, h2⟩ := List.mem_filter.mp h
    have h2 : d = "take" := of_decide_eq_true h2
    rw [h2] at h1
    exact h1
  · exact fun h => ⟨tk k, List.mem_filter.mpr ⟨h, decide_eq_true rfl⟩, rfl⟩
theorem looked_mem {ps : List Stp} {k : Str} : k ∈ looked ps ↔ lo k ∈ ps := by
  unfold looked
  rw [List.mem_map]
  constructor
  · rintro ⟨⟨d, j⟩, h, rfl⟩
    obtain ⟨h1, h2⟩ := List.mem_filter.mp h
    have h2 : d = "look" := of_decide_eq_true h2
    rw [h2] at h1
    exact h1
  · exact fun h => ⟨lo k, List.mem_filter.mpr ⟨h, decide_eq_true rfl⟩, rfl⟩
theorem takes_len {ps : List Stp} : (takes ps).length ≤ ps.length := by
  unfold takes
  rw [List.length_map]
  exact List.length_filter_le _ _
/-- the keys that are held when this one is taken -/
def ahead (ps : List Stp) (k : Str) : List Str := (takes ps).filter fun j => heldAt ps j (pos ps (tk k))
def pairsOf (ps : List Stp) : List Stp := (takes ps).flatMap fun k => (ahead ps k).map fun j => (j, k)
theorem fm_len {α β : Type} {f : α → List β} {n : Nat} (h : ∀ y, (f y).length ≤ n) : ∀ {l : List α}, (l.flatMap f).length ≤ l.length * n
  | [] => by simp
  | y :: r => by
    rw [List.flatMap_cons, List.length_append, List.length_cons, Nat.succ_mul]
    have := h y
    have := fm_len h (l := r)
    omega
theorem pairs_part {ps : List Stp} (few : ps.length < 64) (i j : Nat) (k : Str) : (((takes ps).take i).flatMap (fun k => (ahead ps k).map fun j => ((j, k) : Stp)) ++ (((takes ps).take j).filter fun j => heldAt ps j (pos ps (tk k))).map fun j => ((j, k) : Stp)).length < 100000 := by
  have tl := takes_len (ps := ps)
  have h1 : ∀ k, ((ahead ps k).map fun j => ((j, k) : Stp)).length ≤ 64 := fun k => by
    rw [List.length_map]
    unfold ahead
    exact Nat.le_trans (List.length_filter_le _ _) (by omega)
  have h2 := fm_len h1 (l := (takes ps).take i)
  have h3 := List.length_filter_le (fun j => heldAt ps j (pos ps (tk k))) ((takes ps).take j)
  rw [List.length_append, List.length_map]
  rw [List.length_take] at h2 h3
  have : min i (takes ps).length * 64 ≤ 64 * 64 := Nat.mul_le_mul_right 64 (by omega)
  omega
def sp_Plan_pairs (K : PySem.W.Frag) : Sp := fun vs H Q _ => ∃ (a : Addr) (ps : List Stp) (lk kp : List Str), vs = [.ref a] ∧ PlAt K H a ps lk kp ∧ ps.length < 64 ∧ ∀ H' r, Same H H' → H r = none → (∃ us, H' r = some (.lst us) ∧ PairsIn K H' us (pairsOf ps)) → Q (.ref r) H'
theorem len_Plan_pairs {vs : List V} {H : Hp} {Q : VK} {E : XK} (h : sp_Plan_pairs K vs H Q E) : vs.length = 1 := by
  obtain ⟨_, _, _, _, rfl, _⟩ := h
  rfl
theorem ok_Plan_pairs {f : Addr} {fd : FuncData} {f_Plan__holds : Addr} {fd_Plan__holds : FuncData} (F : Fun K "pairs" "Plan.pairs" s_Plan_pairs f fd) (T : Gs K mg t_LETTERS t_LONGEST_NAME a_DEEDS a_RESERVED a_BadName a_BadPlan a_Plan) (c_Plan__holds : CalM P w K mg base CX0 2 a_Plan "_holds" f_Plan__holds fd_Plan__holds ["self", "key", "step"] (sp_Plan__holds K)) : FnOk P w K mg base CX0 3 f fd ["self"] (sp_Plan_pairs K) := by
  refine F.ok sc_Plan_pairs (fun vs H Q E h => len_Plan_pairs h) (fun cdv A outer s H vs Q E hr h => ?_)
  obtain ⟨a, ps, lk, kp, rfl, hpl, few, q⟩ := h
  refine ⟨_, (pss_cons (ps_set (i := 1) sc_Plan_pairs.nd rfl (.inr rfl) (pe_lc (own := [("deed", 4), ("key", 5)]) (g := gTup K 2 (gCons (gName 4) (gCons (gName 5) gNil))) (by rfl) sc_Plan_pairs.nd (pi_tup (e_f K (v_ 0))) (blkOk_by (N := ["self", "taken", "second", "first", "deed", "key"]) (sc := defScope s_Plan_pairs) (by decide +kernel)) (fun _ _ _ _ _ => pg_tupK K (by rfl) (pgs_cons (pg_name (i := 4) sc_Plan_pairs.nd rfl (Or.inl rfl)) (pgs_cons (pg_name (i := 5) sc_Plan_pairs.nd rfl (Or.inl rfl)) pgs_nil))) (fun _ _ _ _ _ => pts_one (pt_c (eqK K hr.units) (v_ 4) pe_str)) (fun _ _ _ _ _ => (v_ 5)))) (pss_one (ps_ret (pe_lc2 (own := [("second", 2), ("first", 3)]) (vs1 := [3]) (g := gName 2) (g1 := gName 3) (by rfl) sc_Plan_pairs.nd (pi_list (v_ 1)) (blkOk_by (N := ["self", "taken", "second", "first", "deed", "key"]) (sc := defScope s_Plan_pairs) (by decide +kernel)) (by decide) (fun _ _ _ _ _ => pg_name (i := 2) sc_Plan_pairs.nd rfl (Or.inl rfl)) (fun _ _ _ _ _ => pts_nil) (fun _ _ _ _ _ => (pi_listK K (v_ 1))) (fun _ _ _ _ _ => pg_name (i := 3) sc_Plan_pairs.nd rfl (Or.inl rfl)) (fun _ _ _ _ _ => pts_one (pt_t K (pe_meth (v_ 0) c_Plan__holds.cl c_Plan__holds.me c_Plan__holds.G (hr.mono (by first | decide | omega)) c_Plan__holds.b .nil pass0 (pa_cons (v_ 3) (pa_cons (pe_tup (pa_cons pe_str (pa_cons (v_ 2) pa_nil))) pa_nil))))) (fun _ _ _ _ _ => (pe_tup (pa_cons (v_ 3) (pa_cons (v_ 2) pa_nil)))))))), ?_⟩
  obtain ⟨C, dx, t, l, k0, hC, ha, ⟨vs, ht, hp⟩, _, _⟩ := id hpl
  cases hC.symm.trans T.n_Plan
  have vl := pairs_len hp
  have tl := takes_len (ps := ps)
  refine ⟨a, a_Plan, dx, _, _, rfl, ha, T.cl_Plan, T.na_Plan_steps, rfl, t, rfl, ⟨_, ht⟩, fun D nD => ?_⟩
  refine lc_it (walk_tup (xs := vs)) (PvP H D (keepF ps (fun p => decide (p.1 = ("take" : Str))) fun p => .str p.2)) (pvp_start nD rfl) (fun _ _ _ h => SqT.same ht h.1) ?_ ?_
  · rintro i v H1 H2 hi pv ⟨rfl, hv⟩
    obtain ⟨⟨d, k⟩, e, r, rfl, hr⟩ := pairs_at (pairs_same hp pv.1) hv
    refine ⟨r, _, rfl, hr, rfl, _, _, rfl, _, _, rfl, rfl, rfl, ?_⟩
    refine ite2 (fun c => ?_) (fun c => ?_)
    · exact pvp_put nD pv (Same.refl _) (keepF_put e c) (Nat.lt_of_le_of_lt keepF_len (by omega))
    · exact pvp_skip pv (Same.refl _) (keepF_skip e c)
  rintro H1 ⟨s1, hD⟩
  rw [keepF_all vl] at hD
  have hD : H1 D = some (.lst ((takes ps).map V.str)) := by
    rw [hD]
    unfold takes
    rw [List.map_map]
    rfl
  refine ⟨D, rfl, ⟨_, SqL.of hD⟩, fun D2 nD2 => ?_⟩
  refine lc2_it (walk_list (xs := (takes ps).map V.str)) (fun i H' => PvQ K H1 D2 (((takes ps).take i).flatMap fun k => (ahead ps k).map fun j => (j, k)) H') (pvq_start nD2) (fun _ _ _ h => SqL.of (h.1 _ _ hD)) ?_ ?_
  · rintro i v H2 H3 hi pv ⟨rfl, hv⟩
    have hv : ((takes ps).map V.str)[i]? = some v := hv
    rw [List.getElem?_map] at hv
    obtain ⟨k, ek, rfl⟩ := Option.map_eq_some_iff.mp hv
    obtain ⟨n, fst⟩ := first_of (takes_mem.mp (List.mem_of_getElem? ek))
    refine ⟨rfl, ?_⟩
    refine ⟨D, rfl, ⟨_, SqL.of (pv.1 _ _ hD)⟩, ?_⟩
    refine inner2_it (walk_list (xs := (takes ps).map V.str)) (fun j H' => PvQ K H1 D2 (((takes ps).take i).flatMap (fun k => (ahead ps k).map fun j => (j, k)) ++ (((takes ps).take j).filter fun j => heldAt ps j (pos ps (tk k))).map fun j => (j, k)) H') (by rw [List.take_zero, List.filter_nil, List.map_nil, List.append_nil]; exact pv) (fun _ _ _ h => SqL.of (h.1 _ _ hD)) ?_ ?_
    · rintro j v H4 H5 hj pv4 ⟨rfl, hv⟩
      have hv : ((takes ps).map V.str)[j]? = some v := hv
      rw [List.getElem?_map] at hv
      obtain ⟨f, ef, rfl⟩ := Option.map_eq_some_iff.mp hv
      refine ⟨rfl, ?_⟩
      have ha4 := (s1.trans pv4.1) _ _ ha
      refine ⟨a, dx, _, rfl, ha4, rfl, ?_⟩
      refine ⟨(by show 2 ≤ sizeLine; decide), fun u nu => ?_⟩
      have s5 := same_new (o := .tup [.str "take", .str k]) nu
      refine ⟨a, _, tk k, f, ps, lk, kp, n, rfl, pair_new, hpl.same ((s1.trans pv4.1).trans s5), few, fst, fun H6 s6 => ?_⟩
      have s6 := s5.trans s6
      have lim := pairs_part few i j k
      rw [(pos_of fst)] at pv4 ⊢
      rw [(pos_of fst)] at lim
      refine ite2 (fun c => ?_) (fun c => ?_)
      · refine ⟨(by show 2 ≤ sizeLine; decide), fun u2 nu2 => ?_⟩
        have e5 : ((takes ps).take (j + 1)).filter (fun j => heldAt ps j n) = ((takes ps).take j).filter (fun j => heldAt ps j n) ++ [f] := by rw [take_snoc ef, List.filter_append, List.filter_cons_of_pos (p := fun j => heldAt ps j n) c, List.filter_nil]
        rw [e5, List.map_append, ← List.append_assoc]
        exact pvq_put nD2 pv4 (s6.trans (same_new nu2)) pair_new lim
      · have e5 : ((takes ps).take (j + 1)).filter (fun j => heldAt ps j n) = ((takes ps).take j).filter (fun j => heldAt ps j n) := by rw [take_snoc ef, List.filter_append, List.filter_cons_of_neg (p := fun j => heldAt ps j n) c, List.filter_nil, List.append_nil]
        rw [e5]
        exact pvq_skip pv4 s6
    · intro H4 pv4
      rw [List.length_map, List.take_length] at pv4
      rw [take_snoc ek, List.flatMap_append, List.flatMap_cons, List.flatMap_nil, List.append_nil]
      exact pv4
  · intro H2 pv
    rw [List.length_map, List.take_length] at pv
    exact q H2 D2 (s1.trans pv.1) (Same.free s1 nD2) pv.2
def earlAt (zs : List Str) (i : Nat) : List Stp := match zs[i]? with
  | some k => (zs.drop (i + 1)).map fun l => (k, l)
  | none => []
def earlier (zs : List Str) : List Stp := (List.range zs.length).flatMap (earlAt zs)
theorem earl_at {zs : List Str} {i : Nat} {k : Str} (e : zs[i]? = some k) : earlAt zs i = (zs.drop (i + 1)).map fun l => (k, l) := by
  unfold earlAt
  rw [e]
theorem earl_mem {zs : List Str} {p : Stp} (h : p ∈ earlier zs) : p.1 ∈ zs := by
  unfold earlier at h
  obtain ⟨i, _, hi⟩ := List.mem_flatMap.mp h
  unfold earlAt at hi
  cases e : zs[i]? with
  | none => rw [e] at hi; exact nomatch hi
  | some k =>
    rw [e] at hi
    obtain ⟨l, _, rfl⟩ := List.mem_map.mp hi
    exact List.mem_of_getElem? e
theorem earl_len {zs : List Str} (few : zs.length < 64) (i j : Nat) (k : Str) (l : List Str) (hl : l.length ≤ zs.length) : (((List.range zs.length).take i).flatMap (earlAt zs) ++ (l.take j).map fun l => ((k, l) : Stp)).length < 100000 := by
  have h1 : ∀ i, (earlAt zs i).length ≤ 64 := fun i => by
    unfold earlAt
    cases zs[i]? with
    | none => exact Nat.zero_le _
    | some k => show ((zs.drop (i + 1)).map _).length ≤ 64; rw [List.length_map, List.length_drop]; omega
  have h2 := fm_len h1 (l := (List.range zs.length).take i)
  rw [List.length_take, List.length_range] at h2
  have : min i zs.length * 64 ≤ 64 * 64 := Nat.mul_le_mul_right 64 (by omega)
  rw [List.length_append, List.length_map, List.length_take]
  omega
def wastes (ps : List Stp) (p : Stp) : Bool := heldAt ps p.2 (pos ps (lo p.1))
def wasteOf (ps : List Stp) : Nat := ((earlier (looked ps)).filter (wastes ps)).length
def sp_Plan_waste (K : PySem.W.Frag) : Sp := fun vs H Q _ => ∃ (a : Addr) (ps : List Stp) (lk kp : List Str), vs = [.ref a] ∧ PlAt K H a ps lk kp ∧ ps.length < 64 ∧ ∀ H', Same H H' → Q (.int (wasteOf ps : Int)) H'
theorem len_Plan_waste {vs : List V} {H : Hp} {Q : VK} {E : XK} (h : sp_Plan_waste K vs H Q E) : vs.length = 1 := by
  obtain ⟨_, _, _, _, rfl, _⟩ := h
  rfl
theorem ok_Plan_waste {f : Addr} {fd : FuncData} {f_looked_at : Addr} {fd_looked_at : FuncData} {f_Plan__holds : Addr} {fd_Plan__holds : FuncData} (F : Fun K "waste" "Plan.waste" s_Plan_waste f fd) (T : Gs K mg t_LETTERS t_LONGEST_NAME a_DEEDS a_RESERVED a_BadName a_BadPlan a_Plan) (c_looked_at : Cal P w K mg base CX0 1 "looked_at" f_looked_at fd_looked_at ["steps"] (sp_looked_at K)) (c_Plan__holds : CalM P w K mg base CX0 2 a_Plan "_holds" f_Plan__holds fd_Plan__holds ["self", "key", "step"] (sp_Plan__holds K)) : FnOk P w K mg base CX0 3 f fd ["self"] (sp_Plan_waste K) := by
  refine F.ok sc_Plan_waste (fun vs H Q E h => len_Plan_waste h) (fun cdv A outer s H vs Q E hr h => ?_)
  obtain ⟨a, ps, lk, kp, rfl, hpl, few, q⟩ := h
  refine ⟨_, (pss_cons (ps_set (i := 1) sc_Plan_waste.nd rfl (.inr rfl) (pe_call c_looked_at.G (hr.mono (by first | decide | omega)) rfl c_looked_at.m c_looked_at.kp c_looked_at.b .nil pass0 (pa_cons (e_f K (v_ 0)) pa_nil))) (pss_cons (ps_setLc2 (i := 2) (own := [("at", 4), ("key", 5), ("later", 3)]) (vs1 := [3]) (g := gTup K 2 (gCons (gName 4) (gCons (gName 5) gNil))) (g1 := gName 3) (by rfl) sc_Plan_waste.nd rfl rfl (sw_true rfl rfl rfl (by decide +kernel)) (pi_enumT (by rfl) T.z_enumerate (pa_cons (v_ 1) pa_nil)) (blkOk_by (N := ["self", "looked", "earlier", "later", "at", "key"]) (sc := defScope s_Plan_waste) (by decide +kernel)) (by decide) (fun _ _ _ _ _ => pg_tupK K (by rfl) (pgs_cons (pg_name (i := 4) sc_Plan_waste.nd rfl (Or.inl rfl)) (pgs_cons (pg_name (i := 5) sc_Plan_waste.nd rfl (Or.inl rfl)) pgs_nil))) (fun _ _ _ _ _ => pts_nil) (fun _ _ _ _ _ => (pi_tupK K (pe_slice (slK K) (v_ 1) (po_some (pe_op (addK K) (v_ 4) pe_int)) po_none))) (fun _ _ _ _ _ => pg_name (i := 3) sc_Plan_waste.nd rfl (Or.inl rfl)) (fun _ _ _ _ _ => pts_nil) (fun _ _ _ _ _ => (pe_tup (pa_cons (v_ 5) (pa_cons (v_ 3) pa_nil))))) (pss_one (ps_ret (pe_callB (lenK K) (by rfl) T.z_len PySem.boot_len (pa_cons (pe_lc (own := [("key", 5), ("later", 3)]) (g := gTup K 2 (gCons (gName 5) (gCons (gName 3) gNil))) (by rfl) sc_Plan_waste.nd (pi_list (v_ 2)) (blkOk_by (N := ["self", "looked", "earlier", "later", "at", "key"]) (sc := defScope s_Plan_waste) (by decide +kernel)) (fun _ _ _ _ _ => pg_tupK K (by rfl) (pgs_cons (pg_name (i := 5) sc_Plan_waste.nd rfl (Or.inl rfl)) (pgs_cons (pg_name (i := 3) sc_Plan_waste.nd rfl (Or.inl rfl)) pgs_nil))) (fun _ _ _ _ _ => pts_one (pt_t K (pe_meth (v_ 0) c_Plan__holds.cl c_Plan__holds.me c_Plan__holds.G (hr.mono (by first | decide | omega)) c_Plan__holds.b .nil pass0 (pa_cons (v_ 3) (pa_cons (pe_tup (pa_cons pe_str (pa_cons (v_ 5) pa_nil))) pa_nil))))) (fun _ _ _ _ _ => (v_ 5))) pa_nil)))))), ?_⟩
  obtain ⟨C, dx, t, l, k0, hC, ha, hst, _, _⟩ := id hpl
  cases hC.symm.trans T.n_Plan
  have ll := looked_len (ps := ps)
  refine ⟨a, a_Plan, dx, _, _, rfl, ha, T.cl_Plan, T.na_Plan_steps, rfl, t, ps, rfl, hst, few, fun H1 r s1 nr hr => ?_⟩
  generalize hzs : looked ps = zs at hr ll
  have inm : ∀ k ∈ zs, lo k ∈ ps := fun k hk => looked_mem.mp (hzs ▸ hk)
  refine ⟨r, _, rfl, SqT.of hr, fun D nD => ?_⟩
  refine lc2_it (walk_enumT (xs := zs.map V.str)) (fun i H' => PvQ K H1 D (((List.range zs.length).take i).flatMap (earlAt zs)) H') (pvq_start nD) (fun _ _ _ h => SqT.of (h.1 _ _ hr)) ?_ ?_
  · rintro i v H2 H3 hi pv ⟨T1, x, y, rfl, nT, rfl, ex, ey⟩
    cases ex
    have ey : (zs.map V.str)[i]? = some y := ey
    rw [List.getElem?_map] at ey
    obtain ⟨k, ek, rfl⟩ := Option.map_eq_some_iff.mp ey
    have il := (List.getElem?_eq_some_iff.mp ek).1
    have er : (List.range zs.length)[i]? = some i := List.getElem?_range il
    have s2 := same_new (o := .tup [.int (i : Int), .str k]) nT
    have at1 : (upd H2 T1 (.tup [.int (i : Int), .str k])) T1 = some (.tup [.int (i : Int), .str k]) := upd_same
    have pv := pvq_skip pv s2
    generalize upd H2 T1 (.tup [.int (i : Int), .str k]) = H3 at s2 at1 pv ⊢
    refine ⟨T1, _, rfl, SqT.of at1, rfl, _, _, rfl, _, _, rfl, rfl, rfl, ?_⟩
    have whole : ¬ (HT.sIx (zs.map V.str).length 0 (some ((i : Int) + 1)) = 0 ∧ HT.sIx (zs.map V.str).length (zs.map V.str).length none = (zs.map V.str).length) := by
      have z := HT.sIx_nat (zs.map V.str).length 0 (i + 1)
      rw [show (((i + 1 : Nat) : Nat) : Int) = (i : Int) + 1 from rfl] at z
      rw [z, List.length_map]
      omega
    refine ⟨(i : Int) + 1, rfl, .inr ⟨r, _, rfl, SqT.of (pv.1 _ _ hr), whole, fun u nu => ?_⟩⟩
    rw [cutV_drop _ (by omega), show ((i : Int) + 1).toNat = i + 1 by omega, ← List.map_drop]
    have s4 := same_new (o := .tup ((zs.drop (i + 1)).map V.str)) nu
    have hu : (upd H3 u (.tup ((zs.drop (i + 1)).map V.str))) u = some (.tup ((zs.drop (i + 1)).map V.str)) := upd_same
    have uD : u ≠ D := by
      obtain ⟨us, e, _⟩ := pv.2
      exact (ne_of_none e nu).symm
    have pv := pvq_skip pv s4
    generalize upd H3 u (.tup ((zs.drop (i + 1)).map V.str)) = H4 at s4 hu pv ⊢
    refine ⟨u, rfl, ⟨_, SqT.of hu⟩, ?_⟩
    refine inner2_it (walk_tup (xs := (zs.drop (i + 1)).map V.str)) (fun j H' => PvQ K H1 D (((List.range zs.length).take i).flatMap (earlAt zs) ++ ((zs.drop (i + 1)).take j).map fun l => (k, l)) H' ∧ H' u = some (.tup ((zs.drop (i + 1)).map V.str))) ⟨by rw [List.take_zero, List.map_nil, List.append_nil]; exact pv, hu⟩ (fun _ _ _ h => SqT.of h.2) ?_ ?_
    · rintro j v H5 H6 hj ⟨pv5, s5⟩ ⟨rfl, hv⟩
      have hv : ((zs.drop (i + 1)).map V.str)[j]? = some v := hv
      rw [List.getElem?_map] at hv
      obtain ⟨f, ef, rfl⟩ := Option.map_eq_some_iff.mp hv
      refine ⟨rfl, ?_⟩
      refine ⟨(by show 2 ≤ sizeLine; decide), fun u2 nu2 => ?_⟩
      obtain ⟨b, b1, b2, b3⟩ := pvq_put (q := (k, f)) nD pv5 (same_new nu2) pair_new (earl_len (by omega) i j k (zs.drop (i + 1)) (by rw [List.length_drop]; omega))
      refine ⟨b, b1, b2, ?_, ?_⟩
      · rw [take_snoc ef, List.map_append, ← List.append_assoc]
        exact b3
      · rw [upd_ne uD]
        exact same_new nu2 _ _ s5
    · rintro H5 ⟨pv5, _⟩
      rw [List.length_map, List.take_length, ← earl_at ek] at pv5
      rw [take_snoc er, List.flatMap_append, List.flatMap_cons, List.flatMap_nil, List.append_nil]
      exact pv5
  · rintro H2 ⟨s2, us, hD, hus⟩
    rw [List.length_map, List.take_of_length_le (Nat.le_of_eq List.length_range)] at hus
    have hus : PairsIn K H2 us (earlier zs) := hus
    have ul := pairs_len hus
    have el : (earlier zs).length < 100000 := by
      have z := earl_len (zs := zs) (by omega) zs.length 0 Str.empty [] (Nat.zero_le _)
      rw [List.take_zero, List.map_nil, List.append_nil, List.take_of_length_le (Nat.le_of_eq List.length_range)] at z
      exact z
    refine ⟨D, rfl, ⟨_, SqL.of hD⟩, fun D2 nD2 => ?_⟩
    refine lc_it (walk_list (xs := us)) (PvP H2 D2 (keepF (earlier zs) (wastes ps) fun p => .str p.1)) (pvp_start nD2 rfl) (fun _ _ _ h => SqL.of (h.1 _ _ hD)) ?_ ?_
    · rintro i v H3 H4 hi pv ⟨rfl, hv⟩
      obtain ⟨⟨k, f⟩, e, r, rfl, hr⟩ := pairs_at (pairs_same hus pv.1) hv
      obtain ⟨n, fst⟩ := first_of (inm k (earl_mem (List.mem_of_getElem? e)))
      refine ⟨r, _, rfl, hr, rfl, _, _, rfl, _, _, rfl, rfl, rfl, ?_⟩
      have s3 := (s1.trans s2).trans pv.1
      refine ⟨a, dx, _, rfl, s3 _ _ ha, rfl, ?_⟩
      refine ⟨(by show 2 ≤ sizeLine; decide), fun u nu => ?_⟩
      have s5 := same_new (o := .tup [.str "look", .str k]) nu
      refine ⟨a, _, lo k, f, ps, lk, kp, n, rfl, pair_new, hpl.same (s3.trans s5), few, fst, fun H6 s6 => ?_⟩
      have ew : wastes ps (k, f) = heldAt ps f n := by
        show heldAt ps f (pos ps (lo k)) = _
        rw [pos_of fst]
      rw [← ew]
      refine ite2 (fun c => ?_) (fun c => ?_)
      · exact pvp_put nD2 pv (s5.trans s6) (keepF_put e c) (Nat.lt_of_le_of_lt keepF_len el)
      · exact pvp_skip pv (s5.trans s6) (keepF_skip e c)
    · rintro H3 ⟨s3, hD3⟩
      rw [keepF_all ul] at hD3
      refine .inl ⟨_, .inl (SqL.of hD3), ?_⟩
      rw [List.length_map]
      have z := q H3 ((s1.trans s2).trans s3)
      unfold wasteOf at z
      rw [hzs] at z
      exact z
end
section
variable {P : Program} {w : World} {K : PySem.W.Frag} {mg : Str → Option Value} {base : Heap}
variable {t_LETTERS t_LONGEST_NAME : Tok} {a_DEEDS a_RESERVED a_BadName a_BadPlan a_Plan : Addr}
def sp__law_mixed (K : PySem.W.Frag) : Sp := fun vs H Q _ => ∃ (st scr p : Addr) (xs : List V), vs = [.ref st, .ref p] ∧ DrAt H st scr ∧ H p = some (.lst xs) ∧ p ≠ st ∧ xs.length ≤ 1000 ∧
  ∀ (H' : Hp) (r : Addr) (ys : List V), Bt st H H' → DrAt H' st scr → H r = none → H' r = some (.lst ys) → ys.Perm xs → Q (.ref r) H'
theorem len__law_mixed {vs : List V} {H : Hp} {Q : VK} {E : XK} (h : sp__law_mixed K vs H Q E) : vs.length = 2 := by
  obtain ⟨_, _, _, _, rfl, _⟩ := h
  rfl
theorem ok__law_mixed {f : Addr} {fd : FuncData} {f__law_draw : Addr} {fd__law_draw : FuncData} (F : Fun K "_law_mixed" "_law_mixed" s__law_mixed f fd) (T : Gs K mg t_LETTERS t_LONGEST_NAME a_DEEDS a_RESERVED a_BadName a_BadPlan a_Plan) (c__law_draw : Cal P w K mg base CX0 1 "_law_draw" f__law_draw fd__law_draw ["_law_state_here", "_law_many"] (sp__law_draw K)) : FnOk P w K mg base CX0 2 f fd ["_law_state_here", "_law_row"] (sp__law_mixed K) := by
  refine F.ok sc__law_mixed (fun vs H Q E h => len__law_mixed h) (fun cdv A outer s H vs Q E hr h => ?_)
  obtain ⟨st, scr, p, xs, rfl, hd, hp, hne, hl, q⟩ := h
  refine ⟨_, (pss_cons (ps_set (i := 2) sc__law_mixed.nd rfl (.inl rfl) (pe_callTy (listK K) (by rfl) T.z_list (by decide +kernel) (pa_cons (v_ 1) pa_nil))) (pss_cons (ps_set (i := 3) sc__law_mixed.nd rfl (.inl rfl) (pe_lst pa_nil)) (pss_cons (ps_for PassesOwn.never rfl (pi_range1 rfl T.z_range (pa_cons (pe_callB (lenK K) (by rfl) T.z_len PySem.boot_len (pa_cons (v_ 1) pa_nil)) pa_nil)) (pg_name (i := 4) sc__law_mixed.nd rfl (.inl rfl)) (pss_cons (ps_set (i := 5) sc__law_mixed.nd rfl (.inl rfl) (pe_call c__law_draw.G (hr.mono (by first | decide | omega)) rfl c__law_draw.m c__law_draw.kp c__law_draw.b .nil pass0 (pa_cons (v_ 0) (pa_cons (pe_callB (lenK K) (by rfl) T.z_len PySem.boot_len (pa_cons (v_ 2) pa_nil)) pa_nil)))) (pss_cons (ps_expr (pe_bm PySem.F.plainAttrs_list PySem.F.slot_list_append PySem.F.type_list_append mt_append (v_ 3) (pa_cons (e_x K (v_ 2) (v_ 5)) pa_nil))) (pss_one (ps_set (i := 2) sc__law_mixed.nd rfl (.inl rfl) (pe_op (addK K) (pe_slice (slK K) (v_ 2) po_none (po_some (v_ 5))) (pe_slice (slK K) (v_ 2) (po_some (pe_op (addK K) (v_ 5) pe_int)) po_none))))))) (pss_one (ps_ret (v_ 3)))))), ?_⟩
  refine ⟨_, _, rfl, .inl (SqL.of hp), fun t nt => ?_⟩
  refine ⟨Nat.zero_le _, fun r nr => ?_⟩
  have tr := new_ne nr
  have hr0 := free_new nr
  have hd0 := (hd.new (same_new (o := .lst xs) nt)).new (same_new (o := .lst []) nr)
  have ts : t ≠ st := hd.ne_new nt
  have rs : r ≠ st := hd.ne_new hr0
  have rc : r ≠ scr := hd.ne_scr hr0
  refine .inl ⟨_, .inl (SqL.of (by rw [upd_ne (ne_of_none hp hr0), upd_ne (ne_of_none hp nt)]; exact hp)), xs.length, rfl, by omega, by omega, ?_⟩
  refine for_range (lo := 0) (n := xs.length) (fun i σ' H' => ∃ (t : Addr) (rest ys : List V) (y z : Option V), σ' = [some (.ref st), some (.ref p), some (.ref t), some (.ref r), y, z] ∧ Bt st H H' ∧ DrAt H' st scr ∧ t ≠ st ∧ t ≠ r ∧ H' t = some (.lst rest) ∧ H' r = some (.lst ys) ∧ rest.length + i = xs.length ∧ ys.length = i ∧ (rest ++ ys).Perm xs) ?_ ?_ ?_
  · exact ⟨t, xs, [], _, _, rfl, .same ((same_new nt).trans (same_new nr)), hd0, ts, tr.symm, by rw [upd_ne tr.symm, upd_same], upd_same, rfl, rfl, by rw [List.append_nil]⟩
  · rintro i σ' H' hi ⟨t, rest, ys, y, z, rfl, bt, hd, ts, tr, ht, hr, l1, l2, m1⟩
    refine .inl ⟨_, .inl (SqL.of ht), st, scr, _, rfl, hd, by omega, many_small (by omega) (by omega), fun a l a0 a1 hd' => ?_⟩
    have ht1 : upd H' st (.lst l) t = some (.lst rest) := by rw [upd_ne ts]; exact ht
    have hr1 : upd H' st (.lst l) r = some (.lst ys) := by rw [upd_ne rs]; exact hr
    obtain ⟨x, hx, hm⟩ := at_list a0 a1
    refine ⟨.inl ⟨rfl, _, SqL.of hr1⟩, _, .inl (SqL.of ht1), x, hx, r, ys, x, rfl, rfl, hr1, line_lt (by omega), ?_⟩
    have hd2 := hd'.at (o := .lst (ys ++ [x])) rs rc
    have ht2 : upd (upd H' st (.lst l)) r (.lst (ys ++ [x])) t = some (.lst rest) := by rw [upd_ne tr]; exact ht1
    refine ⟨a, rfl, .inl ⟨rest, SqL.of ht2, fun u nu => ?_⟩⟩
    rw [cutV_take _ a0]
    have ht3 := same_new (o := .lst (rest.take a.toNat)) nu _ _ ht2
    refine ⟨a + 1, rfl, .inl ⟨rest, SqL.of ht3, fun v nv => ?_⟩⟩
    rw [cutV_drop _ (by omega)]
    have hu := same_new (o := .lst (rest.drop (a + 1).toNat)) nv _ _ (upd_same (H := upd (upd H' st (.lst l)) r (.lst (ys ++ [x]))) (a := u) (o := .lst (rest.take a.toNat)))
    refine .inl ⟨_, _, hu, upd_same, line_of (by rw [List.length_take, List.length_drop]; omega), fun k nk => ?_⟩
    have sm := ((same_new (o := .lst (rest.take a.toNat)) nu).trans (same_new (o := .lst (rest.drop (a + 1).toNat)) nv)).trans (same_new (o := .lst (rest.take a.toNat ++ rest.drop (a + 1).toNat)) nk)
    have hd3 := hd2.new sm
    have kn := free_new (free_new nk)
    refine ⟨k, _, ys ++ [x], _, _, rfl, ?_, hd3, hd2.ne_new kn, (ne_of_none upd_same kn).symm, upd_same, sm _ _ upd_same, ?_, by rw [List.length_append, l2]; rfl, ?_⟩
    · intro b o nb hb
      refine sm _ _ ?_
      have := bt b o nb hb
      rw [upd_ne (ne_of_none hb hr0), upd_ne nb]
      exact this
    · rw [List.length_append, List.length_take, List.length_drop]
      omega
    · have hx' : rest[a.toNat]? = some x := by
        obtain ⟨x', e1, e2⟩ : ∃ x', rest[a.toNat]? = some x' ∧ atI rest a = some x' := by
          have hlt : a.toNat < rest.length := by omega
          refine ⟨_, List.getElem?_eq_getElem hlt, ?_⟩
          have := atI_nat (List.getElem?_eq_getElem hlt)
          rwa [show ((a.toNat : Nat) : Int) = a by omega] at this
        rw [hx] at e2
        cases e2
        exact e1
      have hr' : rest = rest.take a.toNat ++ x :: rest.drop (a + 1).toNat := by
        obtain ⟨h1, h2⟩ := List.getElem?_eq_some_iff.mp hx'
        rw [show (a + 1).toNat = a.toNat + 1 by omega, ← h2, ← List.drop_eq_getElem_cons h1, List.take_append_drop]
      refine List.Perm.trans ?_ m1
      rw [← List.append_assoc]
      have p1 : (rest.take a.toNat ++ rest.drop (a + 1).toNat ++ ys ++ [x]).Perm (rest.take a.toNat ++ (x :: rest.drop (a + 1).toNat) ++ ys) := by
        refine (List.perm_append_comm (l₁ := rest.take a.toNat ++ rest.drop (a + 1).toNat ++ ys) (l₂ := [x])).trans ?_
        rw [List.append_assoc, List.append_assoc]
        exact (List.perm_middle (a := x) (l₁ := rest.take a.toNat) (l₂ := rest.drop (a + 1).toNat ++ ys)).symm
      rw [← hr'] at p1
      exact p1
  · rintro σ' H' ⟨t, rest, ys, y, z, rfl, bt, hd, ts, tr, ht, hr, l1, l2, m1⟩
    refine q H' r ys bt hd hr0 hr ?_
    have : rest = [] := List.eq_nil_of_length_eq_zero (by omega)
    rw [this] at m1
    exact m1
/-! ### names -/
/-- small letters, of which the one at p is c -/
def Lt (z : Str) (p c : Nat) : Prop := (∀ d ∈ z.cps.toList, d ∈ letters.cps.toList) ∧ z.cps.toList[p]? = some c ∧ z.length ≤ 12
theorem Lt.name {z : Str} {p c : Nat} (h : Lt z p c) (hr : inV (.str z) resv = false) : isName z = true := by
  unfold isName
  have h0 : ¬ ((z.length : Int) < 1) := by
    have := (List.getElem?_eq_some_iff.mp h.2.1).1
    rw [len_cps] at this
    omega
  have h1 : ¬ ((12 : Int) < z.length) := by have := h.2.2; omega
  rw [decide_eq_false h0, decide_eq_false h1, hr]
  show (z.cps.toList.all fun c => decide (c ∈ letters.cps.toList)) = true
  exact List.all_eq_true.mpr fun d hd => decide_eq_true (h.1 d hd)
theorem resv_strs : resv = (["always", "never", "and", "or", "not", "when", "add", "set", "change", "tell", "refuse", "take", "look", "free", "lock", "keep", "keys", "fields"] : List Str).map V.str := rfl
theorem resv_z {z : Str} (h : inV (.str z) resv = true) : inV (.str (z ++ "z")) resv = false ∧ z.length ≤ 7 := by
  rw [resv_strs, inV_str, decide_eq_true_iff] at h
  have all : (["always", "never", "and", "or", "not", "when", "add", "set", "change", "tell", "refuse", "take", "look", "free", "lock", "keep", "keys", "fields"] : List Str).all (fun z => !inV (.str (z ++ "z")) resv && decide (z.length ≤ 7)) = true := by decide +kernel
  have := List.all_eq_true.mp all z h
  rw [Bool.and_eq_true, Bool.not_eq_true', decide_eq_true_iff] at this
  exact this
theorem cutS_take (z : Str) {k : Nat} : (cutS z none (some (k : Int))).cps.toList = z.cps.toList.take k := by
  unfold cutS
  rw [List.toList_toArray, HT.sIx_nat, HT.sIx_none, List.drop_zero, Nat.sub_zero, List.take_eq_take_iff, len_cps]
  omega
theorem cutS_drop (z : Str) {k : Nat} : (cutS z (some (k : Int)) none).cps.toList = z.cps.toList.drop k := by
  unfold cutS
  rw [List.toList_toArray, HT.sIx_nat, HT.sIx_none]
  by_cases h : k ≤ z.length
  · rw [Nat.min_eq_left h, List.take_of_length_le (by rw [List.length_drop, len_cps]; omega)]
  · rw [Nat.min_eq_right (by omega), List.drop_of_length_le (by rw [len_cps]; omega), List.drop_of_length_le (by rw [len_cps]; omega), List.take_nil]
theorem letter_at {i : Int} (h0 : 0 ≤ i) (h1 : i < 26) : atI letters.cps.toList i = some (97 + i.toNat) := by
  have all : ∀ j : Fin 26, letters.cps.toList[j.val]? = some (97 + j.val) := by decide +kernel
  have := all ⟨i.toNat, by omega⟩
  have hq := atI_nat this
  rwa [show ((i.toNat : Nat) : Int) = i by omega] at hq
theorem letter_mem {i : Nat} (h1 : i < 26) : (97 + i) ∈ letters.cps.toList := by
  have all : ∀ j : Fin 26, (97 + j.val) ∈ letters.cps.toList := by decide +kernel
  exact all ⟨i, h1⟩
theorem one_len (c : Nat) : (⟨#[c]⟩ : Str).length = 1 := rfl
theorem one_cps (c : Nat) : (⟨#[c]⟩ : Str).cps.toList = [c] := rfl
theorem Lt.z {z : Str} {p c : Nat} (h : Lt z p c) (hl : z.length ≤ 7) : Lt (z ++ "z") p c := by
  refine ⟨fun d hd => ?_, ?_, ?_⟩
  · rw [cps_add] at hd
    rcases List.mem_append.mp hd with e | e
    · exact h.1 d e
    · have : d = 122 := by simpa using (show d ∈ [122] from e)
      rw [this]
      decide +kernel
  · rw [cps_add, List.getElem?_append_left (List.getElem?_eq_some_iff.mp h.2.1).1]
    exact h.2.1
  · rw [len_add]
    show z.length + 1 ≤ 12
    omega
def sp__law_names (K : PySem.W.Frag) : Sp := fun vs H Q _ => ∃ (st scr : Addr) (n : Nat), vs = [.ref st, .int n] ∧ DrAt H st scr ∧ n ≤ 26 ∧
  ∀ (H' : Hp) (p : Addr) (zs : List Str), Bt st H H' → DrAt H' st scr → H p = none → H' p = some (.lst (zs.map V.str)) → zs.length = n → (∀ z ∈ zs, isName z = true ∧ z.length ≤ 12) → zs.Nodup → Q (.ref p) H'
theorem len__law_names {vs : List V} {H : Hp} {Q : VK} {E : XK} (h : sp__law_names K vs H Q E) : vs.length = 2 := by
  obtain ⟨_, _, _, rfl, _⟩ := h
  rfl
theorem ok__law_names {f : Addr} {fd : FuncData} {f__law_draw : Addr} {fd__law_draw : FuncData} (F : Fun K "_law_names" "_law_names" s__law_names f fd) (T : Gs K mg t_LETTERS t_LONGEST_NAME a_DEEDS a_RESERVED a_BadName a_BadPlan a_Plan) (c__law_draw : Cal P w K mg base CX0 1 "_law_draw" f__law_draw fd__law_draw ["_law_state_here", "_law_many"] (sp__law_draw K)) : FnOk P w K mg base CX0 2 f fd ["_law_state_here", "_law_many"] (sp__law_names K) := by
  refine F.ok sc__law_names (fun vs H Q E h => len__law_names h) (fun cdv A outer s H vs Q E hr h => ?_)
  obtain ⟨st, scr, n, rfl, hd, hn, q⟩ := h
  refine ⟨_, (pss_cons (ps_set (i := 2) sc__law_names.nd rfl (.inl rfl) pe_str) (pss_cons (ps_set (i := 3) sc__law_names.nd rfl (.inl rfl) (pe_call c__law_draw.G (hr.mono (by first | decide | omega)) rfl c__law_draw.m c__law_draw.kp c__law_draw.b .nil pass0 (pa_cons (v_ 0) (pa_cons pe_int pa_nil)))) (pss_cons (ps_set (i := 4) sc__law_names.nd rfl (.inl rfl) (pe_call c__law_draw.G (hr.mono (by first | decide | omega)) rfl c__law_draw.m c__law_draw.kp c__law_draw.b .nil pass0 (pa_cons (v_ 0) (pa_cons pe_int pa_nil)))) (pss_cons (ps_set (i := 5) sc__law_names.nd rfl (.inl rfl) (pe_call c__law_draw.G (hr.mono (by first | decide | omega)) rfl c__law_draw.m c__law_draw.kp c__law_draw.b .nil pass0 (pa_cons (v_ 0) (pa_cons pe_int pa_nil)))) (pss_cons (ps_set (i := 6) sc__law_names.nd rfl (.inl rfl) (pe_call c__law_draw.G (hr.mono (by first | decide | omega)) rfl c__law_draw.m c__law_draw.kp c__law_draw.b .nil pass0 (pa_cons (v_ 0) (pa_cons pe_int pa_nil)))) (pss_cons (ps_set (i := 7) sc__law_names.nd rfl (.inl rfl) pe_str) (pss_cons (ps_for PassesOwn.never rfl (pi_range1 rfl T.z_range (pa_cons pe_int pa_nil)) (pg_name (i := 8) sc__law_names.nd rfl (.inl rfl)) (pss_cons (ps_set (i := 7) sc__law_names.nd rfl (.inl rfl) (pe_op (addK K) (v_ 7) (e_x K (v_ 2) (pe_op op_modM (pe_callTy call_intM (by rfl) T.z_int (by decide +kernel) (pa_cons (v_ 5) pa_nil)) pe_int)))) (pss_one (ps_set (i := 5) sc__law_names.nd rfl (.inl rfl) (pe_op op_divM (pe_callTy call_intM (by rfl) T.z_int (by decide +kernel) (pa_cons (v_ 5) pa_nil)) pe_int))))) (pss_cons (ps_set (i := 9) sc__law_names.nd rfl (.inl rfl) (pe_lst (pa_cons pe_str (pa_cons pe_str (pa_cons pe_str (pa_cons pe_str (pa_cons pe_str (pa_cons pe_str (pa_cons pe_str (pa_cons pe_str (pa_cons pe_str (pa_cons pe_str (pa_cons pe_str (pa_cons pe_str pa_nil)))))))))))))) (pss_cons (ps_set (i := 9) sc__law_names.nd rfl (.inl rfl) (pe_op (addK K) (v_ 9) (pe_lst (pa_cons pe_str (pa_cons pe_str (pa_cons pe_str (pa_cons pe_str (pa_cons pe_str (pa_cons pe_str pa_nil))))))))) (pss_cons (ps_set (i := 10) sc__law_names.nd rfl (.inl rfl) (pe_lst pa_nil)) (pss_cons (ps_for PassesOwn.never rfl (pi_range1 rfl T.z_range (pa_cons (v_ 1) pa_nil)) (pg_name (i := 8) sc__law_names.nd rfl (.inl rfl)) (pss_cons (ps_set (i := 11) sc__law_names.nd rfl (.inl rfl) (e_x K (v_ 2) (pe_op op_modM (pe_callTy call_intM (by rfl) T.z_int (by decide +kernel) (pa_cons (pe_op (addK K) (v_ 4) (pe_op op_mulSM pe_int (v_ 8))) pa_nil)) pe_int))) (Evl.pss_cut (ps_if (pt_c (eqK K hr.units) (v_ 3) pe_int) (pss_one (ps_set (i := 11) sc__law_names.nd rfl (.inl rfl) (pe_op (addK K) (pe_op (addK K) (pe_slice (slK K) (v_ 7) po_none (po_some (v_ 6))) (v_ 11)) (pe_slice (slK K) (v_ 7) (po_some (v_ 6)) po_none)))) pss_nil) (Evl.pss_cut (ps_if (pt_c (eqK K hr.units) (v_ 3) pe_int) (pss_one (ps_set (i := 11) sc__law_names.nd rfl (.inl rfl) (pe_op (addK K) (v_ 11) (pe_slice (slK K) (v_ 7) po_none (po_some (pe_op op_modM (pe_callTy call_intM (by rfl) T.z_int (by decide +kernel) (pa_cons (pe_op (addK K) (pe_op op_mulSM pe_int (v_ 8)) (v_ 6)) pa_nil)) pe_int)))))) pss_nil) (Evl.pss_cut (ps_if (pt_c (eqK K hr.units) (v_ 3) pe_int) (pss_one (ps_set (i := 11) sc__law_names.nd rfl (.inl rfl) (pe_op (addK K) (pe_op (addK K) (pe_slice (slK K) (v_ 7) po_none (po_some pe_int)) (v_ 11)) (v_ 7)))) pss_nil) (Evl.pss_cut (ps_if (pt_c (inK K) (v_ 11) (v_ 9)) (pss_one (ps_set (i := 11) sc__law_names.nd rfl (.inl rfl) (pe_op (addK K) (v_ 11) pe_str))) pss_nil) (pss_one (ps_expr (pe_bm PySem.F.plainAttrs_list PySem.F.slot_list_append PySem.F.type_list_append mt_append (v_ 10) (pa_cons (v_ 11) pa_nil)))))))))) (pss_one (ps_ret (v_ 10)))))))))))))), ?_⟩
  refine ⟨st, scr, _, rfl, hd, by decide, many_small (by decide) (by decide), fun sty l1 s0 s1 hd1 => ?_⟩
  have b1 : Bt st H (upd H st (.lst l1)) := Bt.st
  generalize upd H st (.lst l1) = H1 at hd1 b1 ⊢
  refine ⟨st, scr, _, rfl, hd1, by decide, many_small (by decide) (by decide), fun sh l2 h0 h1 hd2 => ?_⟩
  have b2 := b1.trans (Bt.st (st := st) (o := .lst l2))
  generalize upd H1 st (.lst l2) = H2 at hd2 b2 ⊢
  refine ⟨st, scr, _, rfl, hd2, by decide, many_small (by decide) (by decide), fun cd l3 c0 c1 hd3 => ?_⟩
  have b3 := b2.trans (Bt.st (st := st) (o := .lst l3))
  generalize upd H2 st (.lst l3) = H3 at hd3 b3 ⊢
  refine ⟨st, scr, _, rfl, hd3, by decide, many_small (by decide) (by decide), fun spt l4 p0 p1 hd4 => ?_⟩
  have b4 := b3.trans (Bt.st (st := st) (o := .lst l4))
  generalize upd H3 st (.lst l4) = H4 at hd4 b4 ⊢
  refine ⟨6, rfl, by decide, by decide, ?_⟩
  refine for_range (lo := 0) (n := 6) (fun i σ' H' => ∃ (z : Str) (code : Int) (y : Option V), σ' = [some (.ref st), some (.int n), some (.str letters), some (.int sty), some (.int sh), some (.int code), some (.int spt), some (.str z), y, none, none, none] ∧ H' = H4 ∧ z.length = i ∧ ∀ d ∈ z.cps.toList, d ∈ letters.cps.toList) ?_ ?_ ?_
  · exact ⟨_, _, _, rfl, rfl, rfl, fun _ h => nomatch h⟩
  · rintro i σ' H' hi ⟨z, code, y, rfl, rfl, hz, ha⟩
    refine ⟨by decide, ?_⟩
    have r0 := Int.emod_nonneg code (by decide : (26 : Int) ≠ 0)
    have r1 := Int.emod_lt_of_pos code (by decide : (0 : Int) < 26)
    refine ⟨line_of (by decide +kernel), _, letter_at r0 r1, line_of (by rw [one_len]; omega), ?_⟩
    refine ⟨.inl ⟨by decide, by decide⟩, ?_⟩
    refine ⟨_, _, _, rfl, rfl, by rw [len_add, one_len, hz], fun d hd => ?_⟩
    rw [cps_add, one_cps] at hd
    rcases List.mem_append.mp hd with h | h
    · exact ha d h
    · rw [List.mem_singleton.mp h]
      exact letter_mem (by omega)
  rintro σ' H' ⟨bs, code, y, rfl, rfl, hz, ha⟩
  have hbl : bs.cps.toList.length = 6 := by rw [len_cps]; exact hz
  refine ⟨(by show 12 ≤ sizeLine; decide), fun o no => ?_⟩
  refine ⟨(by show 6 ≤ sizeLine; decide), fun p np => ?_⟩
  have hpo := new_ne np
  refine .inl ⟨_, _, (by rw [upd_ne hpo.symm, upd_same]), upd_same, (by show 18 ≤ sizeLine; decide), fun rv nrv => ?_⟩
  have sm := ((same_new (o := .lst [.str "always", .str "never", .str "and", .str "or", .str "not", .str "when", .str "add", .str "set", .str "change", .str "tell", .str "refuse", .str "take"]) no).trans (same_new (o := .lst [.str "look", .str "free", .str "lock", .str "keep", .str "keys", .str "fields"]) np)).trans (same_new (o := .lst resv) nrv)
  generalize hH5 : upd _ rv _ = H5
  have hrv : H5 rv = some (.lst resv) := by rw [← hH5]; exact upd_same
  have hd5 : DrAt H5 st scr := by rw [← hH5]; exact hd4.new sm
  have b5 : Bt st H H5 := by rw [← hH5]; exact b4.trans (Bt.same (st := st) sm)
  clear hH5
  refine ⟨Nat.zero_le _, fun L nL => ?_⟩
  generalize hH6 : upd _ L _ = H6
  have hrv2 : H6 rv = some (.lst resv) := by rw [← hH6]; exact same_new nL _ _ hrv
  have hd6 : DrAt H6 st scr := by rw [← hH6]; exact hd5.new (same_new nL)
  have b6 : Bt st H H6 := by rw [← hH6]; exact b5.trans (Bt.same (st := st) (same_new nL))
  have L0 : H L = none := b5.free (hd5.ne_new nL) nL
  have eL : H6 L = some (.lst []) := by rw [← hH6]; exact upd_same
  have Ls : L ≠ st := hd5.ne_new nL
  have Lc : L ≠ scr := hd5.ne_scr nL
  have Lrv : rv ≠ L := ne_of_none hrv nL
  clear hH6
  refine ⟨n, rfl, by omega, by omega, ?_⟩
  obtain ⟨ps, hps⟩ : ∃ ps : Nat, ps = if sty = 1 then spt.toNat else if sty = 3 then 5 else 0 := ⟨_, rfl⟩
  refine for_range (lo := 0) (n := n) (fun i σ' H' => ∃ (y z : Option V) (zs : List Str), σ' = [some (.ref st), some (.int n), some (.str letters), some (.int sty), some (.int sh), some (.int code), some (.int spt), some (.str bs), y, some (.ref rv), some (.ref L), z] ∧ H' = upd H6 L (.lst (zs.map V.str)) ∧ zs.length = i ∧
    ∀ (j : Nat) (z : Str), zs[j]? = some z → Lt z ps (97 + ((sh + 7 * (j : Int)) % 26).toNat) ∧ inV (.str z) resv = false) ?_ ?_ ?_
  · exact ⟨_, _, [], rfl, (upd_id eL).symm, rfl, fun j z h => nomatch h⟩
  · rintro i σ' H' hi ⟨y, z, zs, rfl, rfl, hzl, hzs⟩
    have r0 := Int.emod_nonneg (sh + 7 * (0 + (i : Int))) (by decide : (26 : Int) ≠ 0)
    have r1 := Int.emod_lt_of_pos (sh + 7 * (0 + (i : Int))) (by decide : (0 : Int) < 26)
    refine ⟨.inl (.inl ⟨by decide, by decide⟩), by decide, ?_⟩
    refine ⟨line_of (by decide +kernel), _, letter_at r0 r1, ?_⟩
    have hcm := letter_mem (i := ((sh + 7 * (0 + (i : Int))) % 26).toNat) (by omega)
    rw [Int.zero_add] at hcm r0 r1 ⊢
    generalize hcc : 97 + ((sh + 7 * (i : Int)) % 26).toNat = ch at hcm ⊢
    have hrv3 : (upd H6 L (.lst (zs.map V.str))) rv = some (.lst resv) := by rw [upd_ne Lrv]; exact hrv2
    refine ⟨fun σ' H' => ∃ w : Str, σ' = [some (.ref st), some (.int n), some (.str letters), some (.int sty), some (.int sh), some (.int code), some (.int spt), some (.str bs), some (.int i), some (.ref rv), some (.ref L), some (.str w)] ∧ H' = upd H6 L (.lst (zs.map V.str)) ∧ (sty = 1 → Lt w ps ch) ∧ (sty ≠ 1 → w = ⟨#[ch]⟩), ?_, ?_⟩
    · refine ite2 (fun e => ?_) (fun e => ?_)
      · have e : sty = 1 := of_decide_eq_true e
        have l1 := cutS_length bs none (some spt)
        have l2 := cutS_length bs (some spt) none
        have e1 := cutS_take bs (k := spt.toNat)
        have e2 := cutS_drop bs (k := spt.toNat)
        rw [show ((spt.toNat : Nat) : Int) = spt by omega] at e1 e2
        refine ⟨_, rfl, line_of (by omega), line_of (by rw [one_len]; omega), _, rfl, line_of (by omega), line_of (by rw [len_add, one_len]; omega), ?_⟩
        refine ⟨_, rfl, rfl, fun _ => ⟨fun d hd => ?_, ?_, ?_⟩, fun h => absurd e h⟩
        · rw [cps_add, cps_add, e1, e2, one_cps] at hd
          rcases List.mem_append.mp hd with h | h
          · rcases List.mem_append.mp h with h | h
            · exact ha d (List.mem_of_mem_take h)
            · rw [List.mem_singleton.mp h]; exact hcm
          · exact ha d (List.mem_of_mem_drop h)
        · have hps1 : ps = spt.toNat := by rw [hps, if_pos e]
          rw [cps_add, cps_add, e1, e2, one_cps, hps1, List.append_assoc, List.getElem?_append_right (by rw [List.length_take]; omega), List.length_take, hbl, Nat.min_eq_left (by omega), Nat.sub_self]
          rfl
        · rw [len_add, len_add, ← len_cps (cutS bs none (some spt)), ← len_cps (cutS bs (some spt) none), e1, e2, one_len, List.length_take, List.length_drop]
          omega
      · have e : ¬ sty = 1 := of_decide_eq_false (Bool.eq_false_iff.mpr e)
        exact ⟨_, rfl, rfl, fun h => absurd h e, fun _ => rfl⟩
    rintro σ' H' ⟨w, rfl, rfl, g1, g2⟩
    refine ⟨fun σ' H' => ∃ w : Str, σ' = [some (.ref st), some (.int n), some (.str letters), some (.int sty), some (.int sh), some (.int code), some (.int spt), some (.str bs), some (.int i), some (.ref rv), some (.ref L), some (.str w)] ∧ H' = upd H6 L (.lst (zs.map V.str)) ∧ (sty ≠ 3 → Lt w ps ch) ∧ (sty = 3 → w = ⟨#[ch]⟩), ?_, ?_⟩
    · refine ite2 (fun e => ?_) (fun e => ?_)
      · have e : sty = 2 := of_decide_eq_true e
        have hw := g2 (by omega)
        subst hw
        have r2 := Int.emod_nonneg (3 * (i : Int) + spt) (by decide : (7 : Int) ≠ 0)
        have e1 := cutS_take bs (k := ((3 * (i : Int) + spt) % 7).toNat)
        rw [show ((((3 * (i : Int) + spt) % 7).toNat : Nat) : Int) = (3 * (i : Int) + spt) % 7 by omega] at e1
        have l1 := cutS_length bs none (some ((3 * (i : Int) + spt) % 7))
        refine ⟨.inl (.inl ⟨by decide, by decide⟩), by decide, _, rfl, line_of (by omega), line_of (by rw [one_len]; omega), ?_⟩
        refine ⟨_, rfl, rfl, fun _ => ⟨fun d hd => ?_, ?_, ?_⟩, fun h => absurd h (by omega)⟩
        · rw [cps_add, e1, one_cps] at hd
          rcases List.mem_append.mp hd with h | h
          · rw [List.mem_singleton.mp h]; exact hcm
          · exact ha d (List.mem_of_mem_take h)
        · have hps1 : ps = 0 := by rw [hps, if_neg (by omega), if_neg (by omega)]
          rw [cps_add, one_cps, hps1]
          rfl
        · rw [len_add, one_len]
          omega
      · have e : ¬ sty = 2 := of_decide_eq_false (Bool.eq_false_iff.mpr e)
        refine ⟨w, rfl, rfl, fun h3 => ?_, fun h3 => g2 (by omega)⟩
        by_cases h1 : sty = 1
        · exact g1 h1
        · have hw := g2 h1
          subst hw
          refine ⟨fun d hd => ?_, ?_, by rw [one_len]; decide⟩
          · rw [List.mem_singleton.mp hd]; exact hcm
          · have hps1 : ps = 0 := by rw [hps, if_neg h1, if_neg h3]
            rw [hps1]
            rfl
    rintro σ' H' ⟨w, rfl, rfl, g1, g2⟩
    refine ⟨fun σ' H' => ∃ w : Str, σ' = [some (.ref st), some (.int n), some (.str letters), some (.int sty), some (.int sh), some (.int code), some (.int spt), some (.str bs), some (.int i), some (.ref rv), some (.ref L), some (.str w)] ∧ H' = upd H6 L (.lst (zs.map V.str)) ∧ Lt w ps ch, ?_, ?_⟩
    · refine ite2 (fun e => ?_) (fun e => ?_)
      · have e : sty = 3 := of_decide_eq_true e
        have hw := g2 e
        subst hw
        have e1 := cutS_take bs (k := 5)
        have l1 := cutS_length bs none (some 5)
        refine ⟨_, rfl, line_of (by omega), line_of (by rw [one_len]; omega), line_of (by rw [len_add, one_len]; omega), ?_⟩
        refine ⟨_, rfl, rfl, fun d hd => ?_, ?_, ?_⟩
        · rw [cps_add, cps_add, show (cutS bs none (some (5 : Int))).cps.toList = bs.cps.toList.take 5 from e1, one_cps] at hd
          rcases List.mem_append.mp hd with h | h
          · rcases List.mem_append.mp h with h | h
            · exact ha d (List.mem_of_mem_take h)
            · rw [List.mem_singleton.mp h]; exact hcm
          · exact ha d h
        · have hps1 : ps = 5 := by rw [hps, if_neg (by omega), if_pos e]
          rw [cps_add, cps_add, show (cutS bs none (some (5 : Int))).cps.toList = bs.cps.toList.take 5 from e1, one_cps, hps1, List.append_assoc, List.getElem?_append_right (by rw [List.length_take]; omega), List.length_take, hbl]
          rfl
        · rw [len_add, len_add, ← len_cps (cutS bs none (some (5 : Int))), show (cutS bs none (some (5 : Int))).cps.toList = bs.cps.toList.take 5 from e1, one_len, List.length_take]
          omega
      · have e : ¬ sty = 3 := of_decide_eq_false (Bool.eq_false_iff.mpr e)
        exact ⟨w, rfl, rfl, g1 e⟩
    rintro σ' H' ⟨w, rfl, rfl, g1⟩
    refine ⟨fun σ' H' => ∃ w : Str, σ' = [some (.ref st), some (.int n), some (.str letters), some (.int sty), some (.int sh), some (.int code), some (.int spt), some (.str bs), some (.int i), some (.ref rv), some (.ref L), some (.str w)] ∧ H' = upd H6 L (.lst (zs.map V.str)) ∧ Lt w ps ch ∧ inV (.str w) resv = false, ?_, ?_⟩
    · refine ⟨_, .inl (SqL.of hrv3), rfl, rfl, ?_⟩
      refine ite2 (fun e => ?_) (fun e => ?_)
      · have e : inV (.str w) resv = true := e
        obtain ⟨z1, z2⟩ := resv_z e
        exact ⟨line_of (by show w.length + 1 ≤ _; omega), _, rfl, rfl, g1.z z2, z1⟩
      · exact ⟨w, rfl, rfl, g1, Bool.eq_false_iff.mpr e⟩
    rintro σ' H' ⟨w, rfl, rfl, g1, gr⟩
    refine ⟨.inl ⟨rfl, _, SqL.of upd_same⟩, L, _, _, rfl, rfl, upd_same, line_lt (by rw [List.length_map]; omega), ?_⟩
    refine ⟨_, _, zs ++ [w], rfl, ?_, by rw [List.length_append, hzl]; rfl, fun j z hj => ?_⟩
    · rw [upd_upd, List.map_append]
      rfl
    · by_cases h : j < zs.length
      · rw [List.getElem?_append_left h] at hj
        exact hzs j z hj
      · rw [List.getElem?_append_right (by omega)] at hj
        have hj0 : j - zs.length = 0 := by
          have := (List.getElem?_eq_some_iff.mp hj).1
          rw [List.length_singleton] at this
          omega
        rw [hj0] at hj
        cases hj
        rw [show j = i by omega, hcc]
        exact ⟨g1, gr⟩
  · rintro σ' H' ⟨y, z, zs, rfl, rfl, hzl, hzs⟩
    refine q _ L zs ?_ (hd6.at Ls Lc) L0 upd_same (by omega) (fun z hz => ?_) ?_
    · intro b o nb hb
      rw [upd_ne (ne_of_none hb L0)]
      exact b6 b o nb hb
    · obtain ⟨j, hj, e⟩ := List.getElem_of_mem hz
      obtain ⟨h1, h2⟩ := hzs j z (by rw [List.getElem?_eq_getElem hj, e])
      exact ⟨h1.name h2, h1.2.2⟩
    · show List.Pairwise (· ≠ ·) zs
      rw [List.pairwise_iff_getElem]
      intro i j hi hj hij e
      have ej : zs[j]? = some zs[j] := List.getElem?_eq_getElem hj
      have ei : zs[i]? = some zs[j] := by rw [← e]; exact List.getElem?_eq_getElem hi
      obtain ⟨h1, _⟩ := hzs i _ ei
      obtain ⟨h2, _⟩ := hzs j _ ej
      have := h1.2.1.symm.trans h2.2.1
      have := Option.some.inj this
      omega
end
section
variable {P : Program} {w : World} {K : PySem.W.Frag} {mg : Str → Option Value} {base : Heap}
variable {t_LETTERS t_LONGEST_NAME : Tok} {a_DEEDS a_RESERVED a_BadName a_BadPlan a_Plan : Addr}
/-! ### steps that are drawn -/
structure Good (ps : List Stp) : Prop where
  nd : ps.Nodup
  dd : ∀ s ∈ ps, s.1 ∈ deeds
  fo : ∀ (i : Nat) (k : Str), ps[i]? = some (fr k) → tk k ∈ ps.take i
theorem Good.nil : Good [] := ⟨List.nodup_nil, fun _ h => (nomatch h), fun _ _ h => by simp at h⟩
theorem Good.add {ps : List Stp} {s : Stp} (g : Good ps) (n : s ∉ ps) (d : s.1 ∈ deeds) (f : ∀ k, s = fr k → tk k ∈ ps) : Good (ps ++ [s]) := by
  refine ⟨List.nodup_append.mpr ⟨g.nd, by simp, fun a ha b hb e => ?_⟩, fun u hu => ?_, fun i k e => ?_⟩
  · rw [List.mem_singleton.mp hb] at e
    exact n (e ▸ ha)
  · rcases List.mem_append.mp hu with h | h
    · exact g.dd u h
    · rw [List.mem_singleton.mp h]
      exact d
  · by_cases hi : i < ps.length
    · rw [List.getElem?_append_left hi] at e
      rw [List.take_append_of_le_length (by omega)]
      exact g.fo i k e
    · rw [List.getElem?_append_right (by omega)] at e
      have hz : i - ps.length = 0 := by
        by_cases z : i - ps.length = 0
        · exact z
        · rw [List.getElem?_eq_none (by rw [List.length_singleton]; omega)] at e
          cases e
      rw [hz] at e
      rw [List.take_append_of_le_length (by omega), List.take_of_length_le (by omega)]
      exact f k (Option.some.inj e)
/-- ps0 and steps of k behind it, of which a, b, c tell -/
structure Mid (ps0 : List Stp) (k : Str) (n : Nat) (a b c : Prop) (ps : List Stp) : Prop where
  g : Good ps
  old : ∀ s ∈ ps0, s ∈ ps
  new : ∀ s ∈ ps, s ∈ ps0 ∨ s.2 = k
  a_ : tk k ∈ ps ↔ a
  b_ : lo k ∈ ps ↔ b
  c_ : fr k ∈ ps ↔ c
  len : ps.length ≤ ps0.length + n
theorem Mid.to {ps0 ps : List Stp} {k : Str} {n m : Nat} {a b c a' b' c' : Prop} (h : Mid ps0 k n a b c ps) (l : n ≤ m) (ha : a ↔ a') (hb : b ↔ b') (hc : c ↔ c') : Mid ps0 k m a' b' c' ps :=
  ⟨h.g, h.old, h.new, h.a_.trans ha, h.b_.trans hb, h.c_.trans hc, by have := h.len; omega⟩
theorem mem_snoc {α : Type} {l : List α} {x y : α} : x ∈ l ++ [y] ↔ x ∈ l ∨ x = y := by rw [List.mem_append, List.mem_singleton]
theorem Mid.add {ps0 ps : List Stp} {k : Str} {n : Nat} {a b c : Prop} (h : Mid ps0 k n a b c ps) (s : Stp) (e : s.2 = k) (ns : s ∉ ps) (d : s.1 ∈ deeds) (f : ∀ k, s = fr k → tk k ∈ ps) : Mid ps0 k (n + 1) (a ∨ tk k = s) (b ∨ lo k = s) (c ∨ fr k = s) (ps ++ [s]) := by
  refine ⟨h.g.add ns d f, fun u hu => mem_snoc.mpr (.inl (h.old u hu)), fun u hu => ?_, ?_, ?_, ?_, ?_⟩
  · rcases mem_snoc.mp hu with z | z
    · exact h.new u z
    · exact .inr (by rw [z]; exact e)
  · rw [mem_snoc, h.a_]
  · rw [mem_snoc, h.b_]
  · rw [mem_snoc, h.c_]
  · have := h.len
    rw [List.length_append, List.length_singleton]
    omega
theorem tk_lo (k j : Str) : tk k ≠ lo j := fun h => absurd (congrArg Prod.fst h) (by decide +kernel : ("take" : Str) ≠ "look")
theorem tk_fr (k j : Str) : tk k ≠ fr j := fun h => absurd (congrArg Prod.fst h) (by decide +kernel : ("take" : Str) ≠ "free")
theorem lo_fr (k j : Str) : lo k ≠ fr j := fun h => absurd (congrArg Prod.fst h) (by decide +kernel : ("look" : Str) ≠ "free")
theorem Mid.take {ps0 ps : List Stp} {k : Str} {n : Nat} {a b c : Prop} (h : Mid ps0 k n a b c ps) (na : ¬ a) : Mid ps0 k (n + 1) True b c (ps ++ [tk k]) :=
  (h.add (tk k) rfl (fun z => na (h.a_.mp z)) (by show ("take" : Str) ∈ deeds; decide +kernel) fun j e => absurd e (tk_fr k j)).to (Nat.le_refl _) ⟨fun _ => trivial, fun _ => .inr rfl⟩ ⟨fun z => z.elim id fun z => absurd z.symm (tk_lo k k), .inl⟩ ⟨fun z => z.elim id fun z => absurd z.symm (tk_fr k k), .inl⟩
theorem Mid.look {ps0 ps : List Stp} {k : Str} {n : Nat} {a b c : Prop} (h : Mid ps0 k n a b c ps) (nb : ¬ b) : Mid ps0 k (n + 1) a True c (ps ++ [lo k]) :=
  (h.add (lo k) rfl (fun z => nb (h.b_.mp z)) (by show ("look" : Str) ∈ deeds; decide +kernel) fun j e => absurd e (lo_fr k j)).to (Nat.le_refl _) ⟨fun z => z.elim id fun z => absurd z (tk_lo k k), .inl⟩ ⟨fun _ => trivial, fun _ => .inr rfl⟩ ⟨fun z => z.elim id fun z => absurd z.symm (lo_fr k k), .inl⟩
theorem Mid.free {ps0 ps : List Stp} {k : Str} {n : Nat} {a b c : Prop} (h : Mid ps0 k n a b c ps) (nc : ¬ c) (ha : a) : Mid ps0 k (n + 1) a b True (ps ++ [fr k]) :=
  (h.add (fr k) rfl (fun z => nc (h.c_.mp z)) (by show ("free" : Str) ∈ deeds; decide +kernel) fun j e => by cases e; exact h.a_.mpr ha).to (Nat.le_refl _) ⟨fun z => z.elim id fun z => absurd z (tk_fr k k), .inl⟩ ⟨fun z => z.elim id fun z => absurd z (lo_fr k k), .inl⟩ ⟨fun _ => trivial, fun _ => .inr rfl⟩
/-- valid steps over the keys cs -/
structure Wild (cs : List Str) (ps : List Stp) : Prop where
  g : Good ps
  sub : ∀ s ∈ ps, s.2 ∈ cs
  all : ∀ k ∈ cs, lo k ∈ ps
  len : ps.length ≤ 40
  ne : cs ≠ [] → ps ≠ []
theorem Wild.fits {cs : List Str} {ps : List Stp} (h : Wild cs ps) (n : ps ≠ []) : stepsFit ps = true := by
  unfold stepsFit
  rw [decide_eq_true n, decide_eq_true h.g.nd, Bool.true_and, Bool.true_and, List.all_eq_true]
  intro i hi
  have hi := List.mem_range.mp hi
  obtain ⟨p, e⟩ : ∃ p, ps[i]? = some p := ⟨_, List.getElem?_eq_getElem hi⟩
  rw [e]
  obtain ⟨d, k⟩ := p
  have m := List.mem_of_getElem? e
  show stepFits ps i (d, k) = true
  unfold stepFits
  rw [if_neg fun z => z.2 (h.g.fo i k (by rw [e]; exact congrArg (fun d => some (d, k)) z.1)), decide_eq_true (h.g.dd _ m), decide_eq_true (h.all _ (h.sub _ m))]
  rfl
theorem keys_fits {cs zs : List Str} {ps : List Stp} (h : Wild cs ps) (n : zs.Nodup) (s : ∀ z ∈ zs, z ∈ cs) : keysFit ps zs = true := by
  unfold keysFit
  rw [decide_eq_true n, Bool.true_and, List.all_eq_true]
  exact fun z hz => decide_eq_true (h.all z (s z hz))
/-! ### the lists in hand -/
def unV : V → Str
  | .str z => z
  | _ => Str.empty
theorem perm_strs {ys : List V} {zs : List Str} (h : ys.Perm (zs.map V.str)) : ∃ ws : List Str, ys = ws.map V.str ∧ ws.Perm zs := by
  refine ⟨ys.map unV, ?_, ?_⟩
  · rw [List.map_map]
    conv => lhs; rw [← List.map_id ys]
    refine List.map_congr_left fun v hv => ?_
    obtain ⟨z, _, rfl⟩ := List.mem_map.mp (h.mem_iff.mp hv)
    rfl
  · have z := h.map unV
    rw [List.map_map] at z
    have e : zs.map (unV ∘ V.str) = zs := by
      conv => rhs; rw [← List.map_id zs]
      rfl
    rw [e] at z
    exact z
/-- a list of steps at R, in a heap that comes from H0 -/
structure WR (K : PySem.W.Frag) (H0 H : Hp) (st scr R : Addr) (ps : List Stp) : Prop where
  bt : Bt st H0 H
  dr : DrAt H st scr
  r : ∃ us, H R = some (.lst us) ∧ PairsIn K H us ps
theorem wr_add {K : PySem.W.Frag} {H0 H : Hp} {st scr R T : Addr} {ps : List Stp} {us : List V} (w : WR K H0 H st scr R ps) (nR : H0 R = none) (dR : DrAt H0 st scr) (hR : H R = some (.lst us)) (hp : PairsIn K H us ps) (nT : H T = none) (s : Stp) :
    WR K H0 (upd (upd H T (.tup [.str s.1, .str s.2])) R (.lst (us ++ [.ref T]))) st scr R (ps ++ [s]) ∧ ∀ b o, b ≠ R → H b = some o → (upd (upd H T (.tup [.str s.1, .str s.2])) R (.lst (us ++ [.ref T]))) b = some o := by
  have keep : ∀ b o, b ≠ R → H b = some o → (upd (upd H T (.tup [.str s.1, .str s.2])) R (.lst (us ++ [.ref T]))) b = some o := fun b o n e => by rw [upd_ne n]; exact same_new nT _ _ e
  have hs := same_new (o := .tup [.str s.1, .str s.2]) nT
  have ne1 := dR.ne_new nR
  have ne2 := dR.ne_scr nR
  refine ⟨⟨fun b o n e => keep b o (ne_of_none e nR) (w.bt b o n e), (w.dr.new hs).at ne1 ne2, us ++ [.ref T], upd_same, ?_⟩, keep⟩
  refine pairs_snoc (pairs_bt (pairs_same hp hs) (NT.lst ⟨_, hs _ _ hR⟩) Bt.st) ⟨T, rfl, SqT.of ?_⟩
  rw [upd_ne (ne_of_none hR nT).symm, upd_same]
theorem wr_draw {K : PySem.W.Frag} {H0 H : Hp} {st scr R : Addr} {ps : List Stp} {l : List V} (w : WR K H0 H st scr R ps) (nR : H0 R = none) (dR : DrAt H0 st scr) (d : DrAt (upd H st (.lst l)) st scr) : WR K H0 (upd H st (.lst l)) st scr R ps := by
  obtain ⟨us, e, hp⟩ := w.r
  exact ⟨w.bt.trans Bt.st, d, us, by rw [upd_ne (dR.ne_new nR)]; exact e, pairs_bt hp (NT.lst w.dr.lst) Bt.st⟩
/-- the lists of early and of late keys besides -/
def HP (K : PySem.W.Frag) (H0 H : Hp) (st scr R Ea La : Addr) (ps : List Stp) (es ls : List Str) : Prop := WR K H0 H st scr R ps ∧ H Ea = some (.lst (es.map V.str)) ∧ H La = some (.lst (ls.map V.str))
def sp__law_wild_steps (K : PySem.W.Frag) : Sp := fun vs H Q _ => ∃ (st scr p : Addr) (cs : List Str), vs = [.ref st, .ref p] ∧ DrAt H st scr ∧ H p = some (.lst (cs.map V.str)) ∧ p ≠ st ∧ cs.Nodup ∧ cs.length ≤ 4 ∧
  ∀ (H' : Hp) (R : Addr) (ps : List Stp), Bt st H H' → DrAt H' st scr → H R = none → (∃ us, H' R = some (.lst us) ∧ PairsIn K H' us ps) → Wild cs ps → Q (.ref R) H'
theorem len__law_wild_steps {vs : List V} {H : Hp} {Q : VK} {E : XK} (h : sp__law_wild_steps K vs H Q E) : vs.length = 2 := by
  obtain ⟨_, _, _, _, rfl, _⟩ := h
  rfl
theorem not_in_take {cs : List Str} {i : Nat} {k : Str} (n : cs.Nodup) (e : cs[i]? = some k) : k ∉ cs.take i := fun h => by
  obtain ⟨j, hj, ej⟩ := List.getElem_of_mem h
  have ej : (cs.take i)[j]? = some k := by rw [List.getElem?_eq_getElem hj, ej]
  rw [List.length_take] at hj
  rw [List.getElem?_take_of_lt (by omega)] at ej
  have := (List.getElem?_inj (by omega) n).mp (ej.trans e.symm)
  omega
theorem not_in_drop {cs : List Str} {i : Nat} {k : Str} (n : cs.Nodup) (e : cs[i]? = some k) {j : Str} (h : j ∈ cs.drop (i + 1)) : j ≠ k := fun z => by
  obtain ⟨hi, e2⟩ := List.getElem?_eq_some_iff.mp e
  have d : cs.drop i = k :: cs.drop (i + 1) := by rw [List.drop_eq_getElem_cons hi, e2]
  have nn : (cs.drop i).Nodup := n.sublist (List.drop_sublist i cs)
  rw [d, List.nodup_cons] at nn
  exact nn.1 (z ▸ h)
/-- behind the first i keys -/
structure Half (cs es ls : List Str) (i : Nat) (ps : List Stp) : Prop where
  g : Good ps
  sub : ∀ s ∈ ps, s.2 ∈ cs
  left : ∀ s ∈ ps, s.2 ∈ cs.drop i → s.1 = "take" ∧ s.2 ∈ es
  done : ∀ k ∈ cs.take i, lo k ∈ ps
  late : ls.Nodup ∧ ∀ k ∈ ls, k ∈ cs.take i ∧ tk k ∈ ps ∧ fr k ∉ ps
  early : ∀ k ∈ es, tk k ∈ ps
  len : ps.length ≤ 4 + 5 * i ∧ ls.length ≤ i
theorem Half.mid {cs es ls : List Str} {i : Nat} {ps : List Stp} {k : Str} (h : Half cs es ls i ps) (e : cs[i]? = some k) : Mid ps k 0 (k ∈ es) False False ps := by
  obtain ⟨hi, e2⟩ := List.getElem?_eq_some_iff.mp e
  have kd : k ∈ cs.drop i := by
    rw [List.drop_eq_getElem_cons hi, e2]
    exact List.mem_cons_self
  refine ⟨h.g, fun _ z => z, fun _ z => .inl z, ⟨fun z => (h.left _ z kd).2, h.early k⟩, ⟨fun z => ?_, False.elim⟩, ⟨fun z => ?_, False.elim⟩, Nat.le_refl _⟩
  · exact absurd (h.left _ z kd).1 (by show ("look" : Str) ≠ "take"; decide +kernel)
  · exact absurd (h.left _ z kd).1 (by show ("free" : Str) ≠ "take"; decide +kernel)
theorem Half.next {cs es ls ls' : List Str} {i : Nat} {ps ps' : List Stp} {k : Str} {a c : Prop} (h : Half cs es ls i ps) (n : cs.Nodup) (e : cs[i]? = some k) (m : Mid ps k 5 a True c ps') (hl : ls' = ls ∨ (ls' = ls ++ [k] ∧ a ∧ ¬ c)) (es_ : ∀ k ∈ es, k ∈ cs) : Half cs es ls' (i + 1) ps' := by
  have kt := not_in_take n e
  have km : k ∈ cs := List.mem_of_getElem? e
  have old : ∀ j, j ∈ cs.take i → ∀ d, ((d, j) : Stp) ∈ ps' → ((d, j) : Stp) ∈ ps := fun j hj d hd => (m.new _ hd).elim id fun z => absurd (z ▸ hj) kt
  refine ⟨m.g, fun s hs => (m.new s hs).elim (h.sub s) (fun z => z ▸ km), fun s hs hd => ?_, fun j hj => ?_, ?_, fun j hj => m.old _ (h.early j hj), ?_⟩
  · rcases m.new s hs with z | z
    · exact h.left s z (List.mem_of_mem_drop (l := cs.drop i) (i := 1) (by rw [List.drop_drop]; exact hd))
    · exact absurd z (not_in_drop n e hd)
  · rw [take_snoc e] at hj
    rcases mem_snoc.mp hj with z | z
    · exact m.old _ (h.done j z)
    · rw [z]
      exact m.b_.mpr trivial
  · have up : ∀ j ∈ ls, j ∈ cs.take (i + 1) ∧ tk j ∈ ps' ∧ fr j ∉ ps' := fun j hj => by
      obtain ⟨u1, u2, u3⟩ := h.late.2 j hj
      exact ⟨by rw [take_snoc e]; exact List.mem_append_left _ u1, m.old _ u2, fun z => u3 (old j u1 _ z)⟩
    rcases hl with rfl | ⟨rfl, ha, hc⟩
    · exact ⟨h.late.1, up⟩
    · refine ⟨List.nodup_append.mpr ⟨h.late.1, by simp, fun u hu v hv z => ?_⟩, fun j hj => ?_⟩
      · rw [List.mem_singleton.mp hv] at z
        exact kt (z ▸ (h.late.2 u hu).1)
      · rcases mem_snoc.mp hj with z | z
        · exact up j z
        · rw [z]
          exact ⟨by rw [take_snoc e]; exact mem_snoc.mpr (.inr rfl), m.a_.mpr ha, fun w => hc (m.c_.mp w)⟩
  · have := m.len
    have := h.len
    rcases hl with rfl | ⟨rfl, _⟩
    · omega
    · rw [List.length_append, List.length_singleton]
      omega
theorem ok__law_wild_steps {f : Addr} {fd : FuncData} {f__law_mixed : Addr} {fd__law_mixed : FuncData} {f__law_draw : Addr} {fd__law_draw : FuncData} (F : Fun K "_law_wild_steps" "_law_wild_steps" s__law_wild_steps f fd) (T : Gs K mg t_LETTERS t_LONGEST_NAME a_DEEDS a_RESERVED a_BadName a_BadPlan a_Plan) (c__law_mixed : Cal P w K mg base CX0 2 "_law_mixed" f__law_mixed fd__law_mixed ["_law_state_here", "_law_row"] (sp__law_mixed K)) (c__law_draw : Cal P w K mg base CX0 1 "_law_draw" f__law_draw fd__law_draw ["_law_state_here", "_law_many"] (sp__law_draw K)) : FnOk P w K mg base CX0 3 f fd ["_law_state_here", "_law_carried"] (sp__law_wild_steps K) := by
  refine F.ok sc__law_wild_steps (fun vs H Q E h => len__law_wild_steps h) (fun cdv A outer s H vs Q E hr h => ?_)
  obtain ⟨st, scr, p, cs, rfl, hd, hp, hne, nd, lc, q⟩ := h
  refine ⟨_, (pss_cons (ps_set (i := 2) sc__law_wild_steps.nd rfl (.inl rfl) (pe_lst pa_nil)) (pss_cons (ps_set (i := 3) sc__law_wild_steps.nd rfl (.inl rfl) (pe_lst pa_nil)) (pss_cons (ps_for PassesOwn.never rfl (pi_list (pe_call c__law_mixed.G (hr.mono (by first | decide | omega)) rfl c__law_mixed.m c__law_mixed.kp c__law_mixed.b .nil pass0 (pa_cons (v_ 0) (pa_cons (v_ 1) pa_nil)))) (pg_name (i := 4) sc__law_wild_steps.nd rfl (.inl rfl)) (pss_one (ps_if (pt_c (eqK K hr.units) (pe_call c__law_draw.G (hr.mono (by first | decide | omega)) rfl c__law_draw.m c__law_draw.kp c__law_draw.b .nil pass0 (pa_cons (v_ 0) (pa_cons pe_int pa_nil))) pe_int) (pss_cons (ps_expr (pe_bm PySem.F.plainAttrs_list PySem.F.slot_list_append PySem.F.type_list_append mt_append (v_ 2) (pa_cons (pe_tup (pa_cons pe_str (pa_cons (v_ 4) pa_nil))) pa_nil))) (pss_one (ps_expr (pe_bm PySem.F.plainAttrs_list PySem.F.slot_list_append PySem.F.type_list_append mt_append (v_ 3) (pa_cons (v_ 4) pa_nil))))) pss_nil))) (pss_cons (ps_set (i := 5) sc__law_wild_steps.nd rfl (.inl rfl) (pe_lst pa_nil)) (pss_cons (ps_for PassesOwn.never rfl (pi_list (v_ 1)) (pg_name (i := 4) sc__law_wild_steps.nd rfl (.inl rfl)) (pss_cons (ps_set (i := 6) sc__law_wild_steps.nd rfl (.inl rfl) (pe_call c__law_draw.G (hr.mono (by first | decide | omega)) rfl c__law_draw.m c__law_draw.kp c__law_draw.b .nil pass0 (pa_cons (v_ 0) (pa_cons pe_int pa_nil)))) (Evl.pss_cut (ps_if (PW.pt (pw_and (pt_c (notInK K) (v_ 4) (v_ 3)) (pw_and1 (pt_c op_gtM (v_ 6) pe_int)))) (pss_one (ps_expr (pe_bm PySem.F.plainAttrs_list PySem.F.slot_list_append PySem.F.type_list_append mt_append (v_ 2) (pa_cons (pe_tup (pa_cons pe_str (pa_cons (v_ 4) pa_nil))) pa_nil)))) pss_nil) (Evl.pss_cut (ps_if (pt_c (eqK K hr.units) (v_ 6) pe_int) (pss_one (ps_expr (pe_bm PySem.F.plainAttrs_list PySem.F.slot_list_append PySem.F.type_list_append mt_append (v_ 2) (pa_cons (pe_tup (pa_cons pe_str (pa_cons (v_ 4) pa_nil))) pa_nil)))) pss_nil) (pss_cons (ps_expr (pe_bm PySem.F.plainAttrs_list PySem.F.slot_list_append PySem.F.type_list_append mt_append (v_ 2) (pa_cons (pe_tup (pa_cons pe_str (pa_cons (v_ 4) pa_nil))) pa_nil))) (Evl.pss_cut (ps_if (PW.pt (pw_and (pt_c (notInK K) (v_ 4) (v_ 3)) (pw_and1 (pt_c (eqK K hr.units) (v_ 6) pe_int)))) (pss_one (ps_expr (pe_bm PySem.F.plainAttrs_list PySem.F.slot_list_append PySem.F.type_list_append mt_append (v_ 2) (pa_cons (pe_tup (pa_cons pe_str (pa_cons (v_ 4) pa_nil))) pa_nil)))) pss_nil) (Evl.pss_cut (ps_if (pt_c (eqK K hr.units) (v_ 6) pe_int) (pss_one (ps_expr (pe_bm PySem.F.plainAttrs_list PySem.F.slot_list_append PySem.F.type_list_append mt_append (v_ 2) (pa_cons (pe_tup (pa_cons pe_str (pa_cons (v_ 4) pa_nil))) pa_nil)))) pss_nil) (pss_one (ps_if (pt_c (eqK K hr.units) (v_ 6) pe_int) (pss_one (ps_expr (pe_bm PySem.F.plainAttrs_list PySem.F.slot_list_append PySem.F.type_list_append mt_append (v_ 5) (pa_cons (v_ 4) pa_nil)))) pss_nil))))))))) (pss_cons (ps_for PassesOwn.never rfl (pi_list (v_ 5)) (pg_name (i := 4) sc__law_wild_steps.nd rfl (.inl rfl)) (pss_one (ps_expr (pe_bm PySem.F.plainAttrs_list PySem.F.slot_list_append PySem.F.type_list_append mt_append (v_ 2) (pa_cons (pe_tup (pa_cons pe_str (pa_cons (v_ 4) pa_nil))) pa_nil))))) (pss_one (ps_ret (v_ 2))))))))), ?_⟩
  refine ⟨Nat.zero_le _, fun R nR => ?_⟩
  refine ⟨Nat.zero_le _, fun Ea nE => ?_⟩
  have ER : Ea ≠ R := new_ne nE
  have nE0 := free_new nE
  have dRs := hd.ne_new nR
  have dEs := hd.ne_new nE0
  have pR : p ≠ R := ne_of_none hp nR
  have pE : p ≠ Ea := ne_of_none hp nE0
  have sm0 := (same_new (o := .lst []) nR).trans (same_new (o := .lst []) nE)
  have w0 : WR K H (upd (upd H R (.lst [])) Ea (.lst [])) st scr R [] := ⟨Bt.same sm0, hd.new sm0, [], by rw [upd_ne ER.symm, upd_same], .nil⟩
  have e0 : (upd (upd H R (.lst [])) Ea (.lst [])) Ea = some (.lst (([] : List Str).map V.str)) := upd_same
  generalize upd (upd H R (.lst [])) Ea (.lst []) = H1 at w0 e0 sm0 ⊢
  refine ⟨st, scr, p, cs.map V.str, rfl, w0.dr, sm0 _ _ hp, hne, by rw [List.length_map]; omega, fun H2 m ys b2 d2 nm hm pm => ?_⟩
  obtain ⟨ms, eys, pmS⟩ := perm_strs pm
  subst eys
  clear pm
  have lm := pmS.length_eq
  have nm' : ms.Nodup := pmS.nodup_iff.mpr nd
  have w2 : WR K H H2 st scr R [] := by
    obtain ⟨us, e, hu⟩ := w0.r
    exact ⟨w0.bt.trans b2, d2, us, b2 _ _ dRs e, pairs_bt hu (NT.lst w0.dr.lst) b2⟩
  have e2 : H2 Ea = some (.lst (([] : List Str).map V.str)) := b2 _ _ dEs e0
  have mR : m ≠ R := by
    obtain ⟨us, e, hu⟩ := w0.r
    exact (ne_of_none e nm).symm
  have mE : m ≠ Ea := (ne_of_none e0 nm).symm
  have ms_ : m ≠ st := w0.dr.ne_new nm
  refine ⟨m, rfl, ⟨_, SqL.of hm⟩, ?_⟩
  refine for_list (K := K) (a := m) (xs := ms.map V.str) (fun i σ' H' => ∃ (y : Option V) (es : List Str), σ' = [some (.ref st), some (.ref p), some (.ref R), some (.ref Ea), y, none, none] ∧ WR K H H' st scr R (es.map tk) ∧ H' Ea = some (.lst (es.map V.str)) ∧ H' m = some (.lst (ms.map V.str)) ∧ es.Nodup ∧ (∀ k ∈ es, k ∈ ms.take i) ∧ es.length ≤ i) ⟨_, [], rfl, w2, e2, hm, List.nodup_nil, (fun _ h => nomatch h), Nat.le_refl _⟩ (fun i σ' H' _ h => by obtain ⟨_, _, _, _, _, h, _⟩ := h; exact SqL.of h) ?_ ?_
  · rintro i v σ' H3 hi ⟨y, es, rfl, w, he, hm3, ne, te, le⟩
    rw [List.getElem?_map] at hi
    obtain ⟨k, ek, rfl⟩ := Option.map_eq_some_iff.mp hi
    have il := (List.getElem?_eq_some_iff.mp ek).1
    refine ⟨st, scr, 4, rfl, w.dr, by decide, many_small (by decide) (by decide), fun r l r0 r1 d3 => ?_⟩
    have w := wr_draw w nR hd d3
    have he : upd H3 st (.lst l) Ea = some (.lst (es.map V.str)) := by rw [upd_ne dEs]; exact he
    have hm3 : upd H3 st (.lst l) m = some (.lst (ms.map V.str)) := by rw [upd_ne ms_]; exact hm3
    generalize upd H3 st (.lst l) = H4 at w he hm3 ⊢
    refine ite2 (fun c => ?_) (fun c => ?_)
    · obtain ⟨us, hR, hp1⟩ := w.r
      have ul := pairs_len hp1
      rw [List.length_map] at ul
      refine ⟨.inl ⟨rfl, _, SqL.of hR⟩, (by show 2 ≤ sizeLine; decide), fun T nT => ⟨R, us, .ref T, rfl, rfl, (same_new nT) _ _ hR, line_lt (by omega), ?_⟩⟩
      obtain ⟨w5, k5⟩ := wr_add w nR hd hR hp1 nT (tk k)
      have he5 := k5 _ _ ER he
      have hm5 := k5 _ _ mR hm3
      have nk : k ∉ es := fun h => not_in_take nm' ek (te k h)
      show (fun H5 => _) (upd (upd H4 T (.tup [.str (tk k).1, .str (tk k).2])) R (.lst (us ++ [.ref T])))
      generalize upd (upd H4 T (.tup [.str (tk k).1, .str (tk k).2])) R (.lst (us ++ [.ref T])) = H5 at w5 he5 hm5 ⊢
      refine ⟨.inl ⟨rfl, _, SqL.of he5⟩, Ea, es.map V.str, .str k, rfl, rfl, he5, line_lt (by rw [List.length_map]; omega), ?_⟩
      obtain ⟨us5, hR5, hp5⟩ := w5.r
      refine ⟨_, es ++ [k], rfl, ⟨fun b o n e => ?_, w5.dr.at dEs (hd.ne_scr nE0), us5, ?_, ?_⟩, ?_, ?_, ?_, ?_, ?_⟩
      · rw [upd_ne (ne_of_none e nE0)]; exact w5.bt b o n e
      · rw [upd_ne ER.symm]; exact hR5
      · rw [List.map_append]
        exact pairs_bt hp5 (NT.lst ⟨_, he5⟩) Bt.st
      · rw [upd_same, List.map_append]; rfl
      · rw [upd_ne mE]; exact hm5
      · exact List.nodup_append.mpr ⟨ne, by simp, fun a ha b hb e => nk (by rw [← List.mem_singleton.mp hb, ← e]; exact ha)⟩
      · intro j hj
        rw [take_snoc ek]
        rcases mem_snoc.mp hj with z | z
        · exact mem_snoc.mpr (.inl (te j z))
        · exact mem_snoc.mpr (.inr z)
      · rw [List.length_append, List.length_singleton]; omega
    · exact ⟨_, es, rfl, w, he, hm3, ne, fun j hj => by rw [take_snoc ek]; exact mem_snoc.mpr (.inl (te j hj)), by omega⟩
  rintro σ' H3 ⟨y, es, rfl, w3, he3, _, ne, te, le⟩
  rw [List.length_map] at te le
  rw [List.take_length] at te
  have ce : ∀ k ∈ es, k ∈ cs := fun k hk => pmS.mem_iff.mp (te k hk)
  refine ⟨Nat.zero_le _, fun La nL => ?_⟩
  have LR : La ≠ R := by
    obtain ⟨us, e, _⟩ := w3.r
    exact (ne_of_none e nL).symm
  have LE : La ≠ Ea := (ne_of_none he3 nL).symm
  have Ls : La ≠ st := w3.dr.ne_new nL
  have Lc : La ≠ scr := w3.dr.ne_scr nL
  have nL0 : H La = none := w3.bt.free Ls nL
  have sL := same_new (o := .lst []) nL
  have w4 : WR K H (upd H3 La (.lst [])) st scr R (es.map tk) := by
    obtain ⟨us, e, hu⟩ := w3.r
    exact ⟨w3.bt.trans (Bt.same sL), w3.dr.new sL, us, sL _ _ e, pairs_same hu sL⟩
  have he4 : (upd H3 La (.lst [])) Ea = some (.lst (es.map V.str)) := sL _ _ he3
  have hL4 : (upd H3 La (.lst [])) La = some (.lst (([] : List Str).map V.str)) := upd_same
  generalize upd H3 La (.lst []) = H4 at w4 he4 hL4 ⊢
  clear w3 he3 nL sL
  refine ⟨p, rfl, ⟨_, SqL.of (w4.bt _ _ hne hp)⟩, ?_⟩
  have tkn : ∀ k, tk k ∈ es.map tk ↔ k ∈ es := fun k => by
    rw [List.mem_map]
    exact ⟨fun ⟨j, hj, e⟩ => by cases e; exact hj, fun h => ⟨k, h, rfl⟩⟩
  have half0 : Half cs es [] 0 (es.map tk) := by
    refine ⟨⟨?_, fun s hs => ?_, fun i k e => ?_⟩, fun s hs => ?_, fun s hs _ => ?_, (fun _ h => nomatch h), ⟨List.nodup_nil, fun _ h => nomatch h⟩, fun k hk => (tkn k).mpr hk, ?_⟩
    · exact List.pairwise_map.mpr (List.Pairwise.imp (fun n e => n (congrArg Prod.snd e)) ne)
    · obtain ⟨j, _, rfl⟩ := List.mem_map.mp hs
      show ("take" : Str) ∈ deeds
      decide +kernel
    · rw [List.getElem?_map] at e
      obtain ⟨j, _, e⟩ := Option.map_eq_some_iff.mp e
      exact absurd e (tk_fr j k)
    · obtain ⟨j, hj, rfl⟩ := List.mem_map.mp hs
      exact ce j hj
    · obtain ⟨j, hj, rfl⟩ := List.mem_map.mp hs
      exact ⟨rfl, hj⟩
    · rw [List.length_map, List.length_nil]
      omega
  refine for_list (K := K) (a := p) (xs := cs.map V.str) (fun i σ' H' => ∃ (y z : Option V) (ps : List Stp) (ls : List Str), σ' = [some (.ref st), some (.ref p), some (.ref R), some (.ref Ea), y, some (.ref La), z] ∧ Half cs es ls i ps ∧ WR K H H' st scr R ps ∧ H' Ea = some (.lst (es.map V.str)) ∧ H' La = some (.lst (ls.map V.str))) ⟨_, _, _, [], rfl, half0, w4, he4, hL4⟩ (fun i σ' H' _ h => by obtain ⟨_, _, _, _, _, _, h, _⟩ := h; exact SqL.of (h.bt _ _ hne hp)) ?_ ?_
  · rintro i v σ' H5 hi ⟨y, z, ps, ls, rfl, hf, w, he, hL⟩
    rw [List.getElem?_map] at hi
    obtain ⟨k, ek, rfl⟩ := Option.map_eq_some_iff.mp hi
    have il := (List.getElem?_eq_some_iff.mp ek).1
    have pl := hf.len
    refine ⟨st, scr, 16, rfl, w.dr, by decide, many_small (by decide) (by decide), fun c l r0 r1 d3 => ?_⟩
    have w := wr_draw w nR hd d3
    have he : upd H5 st (.lst l) Ea = some (.lst (es.map V.str)) := by rw [upd_ne dEs]; exact he
    have hL : upd H5 st (.lst l) La = some (.lst (ls.map V.str)) := by rw [upd_ne Ls]; exact hL
    generalize upd H5 st (.lst l) = H6 at w he hL ⊢
    clear d3
    have md := hf.mid ek
    -- taken before its look
    refine ⟨fun σ' H' => ∃ ps1, σ' = [some (.ref st), some (.ref p), some (.ref R), some (.ref Ea), some (.str k), some (.ref La), some (.int c)] ∧ Mid ps k 1 (k ∈ es ∨ 1 < c) False (False) ps1 ∧ WR K H H' st scr R ps1 ∧ H' Ea = some (.lst (es.map V.str)) ∧ H' La = some (.lst (ls.map V.str)), ?_, ?_⟩
    · refine ⟨_, .inl (SqL.of he), rfl, flat_strs, ?_⟩
      refine ite2 (fun c1 => ?_) (fun c1 => ?_)
      · have c1 : k ∉ es := by
          have c1 : (!inV (.str k) (es.map V.str)) = true := c1
          rw [inV_str] at c1
          simpa using c1
        refine ite2 (fun c2 => ?_) (fun c2 => ?_)
        · have c2 : 1 < c := of_decide_eq_true c2
          obtain ⟨us, hR, hp1⟩ := w.r
          have ul := pairs_len hp1
          have ml := md.len
          refine ⟨.inl ⟨rfl, _, SqL.of hR⟩, (by show 2 ≤ sizeLine; decide), fun T nT => ⟨R, us, .ref T, rfl, rfl, (same_new nT) _ _ hR, line_lt (by omega), ?_⟩⟩
          obtain ⟨w, kk⟩ := wr_add w nR hd hR hp1 nT (tk k)
          have he := kk _ _ ER he
          have hL := kk _ _ LR hL
          have md := md.take c1
          show (fun H9 => _) (upd (upd H6 T (.tup [.str (tk k).1, .str (tk k).2])) R (.lst (us ++ [.ref T])))
          generalize upd (upd H6 T (.tup [.str (tk k).1, .str (tk k).2])) R (.lst (us ++ [.ref T])) = H7 at w he hL ⊢
          exact ⟨_, rfl, md.to (Nat.le_refl _) ⟨fun _ => .inr c2, fun _ => trivial⟩ Iff.rfl Iff.rfl, w, he, hL⟩
        · have c2 : ¬ 1 < c := of_decide_eq_false (Bool.eq_false_iff.mpr c2)
          exact ⟨_, rfl, md.to (by omega) ⟨.inl, fun h => h.elim id fun h => absurd h c2⟩ Iff.rfl Iff.rfl, w, he, hL⟩
      · have c1 : k ∈ es := by
          have c1 : ¬ (!inV (.str k) (es.map V.str)) = true := c1
          rw [inV_str] at c1
          simpa using c1
        exact ⟨_, rfl, md.to (by omega) ⟨.inl, fun _ => c1⟩ Iff.rfl Iff.rfl, w, he, hL⟩
    clear md w he hL
    rintro σ' H6 ⟨ps1, rfl, md, w, he, hL⟩
    -- freed before its look
    refine ⟨fun σ' H' => ∃ ps1, σ' = [some (.ref st), some (.ref p), some (.ref R), some (.ref Ea), some (.str k), some (.ref La), some (.int c)] ∧ Mid ps k 2 (k ∈ es ∨ 1 < c) False (c = 2) ps1 ∧ WR K H H' st scr R ps1 ∧ H' Ea = some (.lst (es.map V.str)) ∧ H' La = some (.lst (ls.map V.str)), ?_, ?_⟩
    · refine ite2 (fun c1 => ?_) (fun c1 => ?_)
      · have c1 : c = 2 := of_decide_eq_true c1
        obtain ⟨us, hR, hp1⟩ := w.r
        have ul := pairs_len hp1
        have ml := md.len
        refine ⟨.inl ⟨rfl, _, SqL.of hR⟩, (by show 2 ≤ sizeLine; decide), fun T nT => ⟨R, us, .ref T, rfl, rfl, (same_new nT) _ _ hR, line_lt (by omega), ?_⟩⟩
        obtain ⟨w, kk⟩ := wr_add w nR hd hR hp1 nT (fr k)
        have he := kk _ _ ER he
        have hL := kk _ _ LR hL
        have md := md.free id (.inr (by omega))
        show (fun H9 => _) (upd (upd H6 T (.tup [.str (fr k).1, .str (fr k).2])) R (.lst (us ++ [.ref T])))
        generalize upd (upd H6 T (.tup [.str (fr k).1, .str (fr k).2])) R (.lst (us ++ [.ref T])) = H7 at w he hL ⊢
        exact ⟨_, rfl, md.to (Nat.le_refl _) Iff.rfl Iff.rfl ⟨fun _ => c1, fun _ => trivial⟩, w, he, hL⟩
      · have c1 : ¬ c = 2 := of_decide_eq_false (Bool.eq_false_iff.mpr c1)
        exact ⟨_, rfl, md.to (by omega) Iff.rfl Iff.rfl ⟨False.elim, c1⟩, w, he, hL⟩
    clear md w he hL
    rintro σ' H6 ⟨ps1, rfl, md, w, he, hL⟩
    -- looked at
    obtain ⟨us, hR, hp1⟩ := w.r
    have ul := pairs_len hp1
    have ml := md.len
    refine ⟨.inl ⟨rfl, _, SqL.of hR⟩, (by show 2 ≤ sizeLine; decide), fun T nT => ⟨R, us, .ref T, rfl, rfl, (same_new nT) _ _ hR, line_lt (by omega), ?_⟩⟩
    obtain ⟨w, kk⟩ := wr_add w nR hd hR hp1 nT (lo k)
    have he := kk _ _ ER he
    have hL := kk _ _ LR hL
    have md := md.look id
    show (fun H9 => _) (upd (upd H6 T (.tup [.str (lo k).1, .str (lo k).2])) R (.lst (us ++ [.ref T])))
    generalize upd (upd H6 T (.tup [.str (lo k).1, .str (lo k).2])) R (.lst (us ++ [.ref T])) = H7 at w he hL ⊢
    skip
    -- taken behind its look
    refine ⟨fun σ' H' => ∃ ps1, σ' = [some (.ref st), some (.ref p), some (.ref R), some (.ref Ea), some (.str k), some (.ref La), some (.int c)] ∧ Mid ps k 4 (k ∈ es ∨ 1 ≤ c) True (c = 2) ps1 ∧ WR K H H' st scr R ps1 ∧ H' Ea = some (.lst (es.map V.str)) ∧ H' La = some (.lst (ls.map V.str)), ?_, ?_⟩
    · refine ⟨_, .inl (SqL.of he), rfl, flat_strs, ?_⟩
      refine ite2 (fun c1 => ?_) (fun c1 => ?_)
      · have c1 : k ∉ es := by
          have c1 : (!inV (.str k) (es.map V.str)) = true := c1
          rw [inV_str] at c1
          simpa using c1
        refine ite2 (fun c2 => ?_) (fun c2 => ?_)
        · have c2 : c = 1 := of_decide_eq_true c2
          obtain ⟨us, hR, hp1⟩ := w.r
          have ul := pairs_len hp1
          have ml := md.len
          refine ⟨.inl ⟨rfl, _, SqL.of hR⟩, (by show 2 ≤ sizeLine; decide), fun T nT => ⟨R, us, .ref T, rfl, rfl, (same_new nT) _ _ hR, line_lt (by omega), ?_⟩⟩
          obtain ⟨w, kk⟩ := wr_add w nR hd hR hp1 nT (tk k)
          have he := kk _ _ ER he
          have hL := kk _ _ LR hL
          have md := md.take (fun h => h.elim c1 (by omega))
          show (fun H9 => _) (upd (upd H7 T (.tup [.str (tk k).1, .str (tk k).2])) R (.lst (us ++ [.ref T])))
          generalize upd (upd H7 T (.tup [.str (tk k).1, .str (tk k).2])) R (.lst (us ++ [.ref T])) = H8 at w he hL ⊢
          exact ⟨_, rfl, md.to (Nat.le_refl _) ⟨fun _ => .inr (by omega), fun _ => trivial⟩ Iff.rfl Iff.rfl, w, he, hL⟩
        · have c2 : ¬ c = 1 := of_decide_eq_false (Bool.eq_false_iff.mpr c2)
          exact ⟨_, rfl, md.to (by omega) ⟨fun h => h.imp id (by omega), fun h => h.imp id (by omega)⟩ Iff.rfl Iff.rfl, w, he, hL⟩
      · have c1 : k ∈ es := by
          have c1 : ¬ (!inV (.str k) (es.map V.str)) = true := c1
          rw [inV_str] at c1
          simpa using c1
        exact ⟨_, rfl, md.to (by omega) ⟨fun _ => .inl c1, fun _ => .inl c1⟩ Iff.rfl Iff.rfl, w, he, hL⟩
    clear md w he hL
    rintro σ' H6 ⟨ps1, rfl, md, w, he, hL⟩
    -- freed behind its look
    refine ⟨fun σ' H' => ∃ ps1, σ' = [some (.ref st), some (.ref p), some (.ref R), some (.ref Ea), some (.str k), some (.ref La), some (.int c)] ∧ Mid ps k 5 (k ∈ es ∨ 1 ≤ c) True (c = 2 ∨ c = 3) ps1 ∧ WR K H H' st scr R ps1 ∧ H' Ea = some (.lst (es.map V.str)) ∧ H' La = some (.lst (ls.map V.str)), ?_, ?_⟩
    · refine ite2 (fun c1 => ?_) (fun c1 => ?_)
      · have c1 : c = 3 := of_decide_eq_true c1
        obtain ⟨us, hR, hp1⟩ := w.r
        have ul := pairs_len hp1
        have ml := md.len
        refine ⟨.inl ⟨rfl, _, SqL.of hR⟩, (by show 2 ≤ sizeLine; decide), fun T nT => ⟨R, us, .ref T, rfl, rfl, (same_new nT) _ _ hR, line_lt (by omega), ?_⟩⟩
        obtain ⟨w, kk⟩ := wr_add w nR hd hR hp1 nT (fr k)
        have he := kk _ _ ER he
        have hL := kk _ _ LR hL
        have md := md.free (by omega) (.inr (by omega))
        show (fun H9 => _) (upd (upd H6 T (.tup [.str (fr k).1, .str (fr k).2])) R (.lst (us ++ [.ref T])))
        generalize upd (upd H6 T (.tup [.str (fr k).1, .str (fr k).2])) R (.lst (us ++ [.ref T])) = H7 at w he hL ⊢
        exact ⟨_, rfl, md.to (Nat.le_refl _) Iff.rfl Iff.rfl ⟨fun _ => .inr c1, fun _ => trivial⟩, w, he, hL⟩
      · have c1 : ¬ c = 3 := of_decide_eq_false (Bool.eq_false_iff.mpr c1)
        exact ⟨_, rfl, md.to (by omega) Iff.rfl Iff.rfl ⟨.inl, fun h => h.elim id fun h => absurd h c1⟩, w, he, hL⟩
    clear md w he hL
    rintro σ' H6 ⟨ps1, rfl, md, w, he, hL⟩
    -- freed at the end
    refine ite2 (fun c1 => ?_) (fun c1 => ?_)
    · have c1 : c = 4 := of_decide_eq_true c1
      refine ⟨.inl ⟨rfl, _, SqL.of hL⟩, La, ls.map V.str, .str k, rfl, rfl, hL, line_lt (by rw [List.length_map]; omega), ?_⟩
      refine ⟨_, _, ps1, ls ++ [k], rfl, hf.next nd ek md (.inr ⟨rfl, .inr (by omega), by omega⟩) ce, ⟨fun b o n e => ?_, w.dr.at Ls Lc, ?_⟩, by rw [upd_ne LE.symm]; exact he, by rw [upd_same, List.map_append]; rfl⟩
      · rw [upd_ne (ne_of_none e nL0)]; exact w.bt b o n e
      · obtain ⟨us, e, hu⟩ := w.r
        exact ⟨us, by rw [upd_ne LR.symm]; exact e, pairs_bt hu (NT.lst ⟨_, hL⟩) Bt.st⟩
    · exact ⟨_, _, ps1, ls, rfl, hf.next nd ek md (.inl rfl) ce, w, he, hL⟩
  rintro σ' H5 ⟨y, z, ps, ls, rfl, hf, w, he, hL⟩
  rw [List.length_map] at hf
  have hl := hf.len
  have late := hf.late
  rw [List.take_length] at late
  have done := hf.done
  rw [List.take_length] at done
  refine ⟨La, rfl, ⟨_, SqL.of hL⟩, ?_⟩
  refine for_list (K := K) (a := La) (xs := ls.map V.str) (fun i σ' H' => ∃ (y z : Option V) (ps1 : List Stp), σ' = [some (.ref st), some (.ref p), some (.ref R), some (.ref Ea), y, some (.ref La), z] ∧ Good ps1 ∧ (∀ s ∈ ps, s ∈ ps1) ∧ (∀ s ∈ ps1, s ∈ ps ∨ ∃ k ∈ ls.take i, s = fr k) ∧ ps1.length ≤ ps.length + i ∧ WR K H H' st scr R ps1 ∧ H' La = some (.lst (ls.map V.str))) ⟨_, _, ps, rfl, hf.g, fun _ h => h, fun _ h => .inl h, Nat.le_refl _, w, hL⟩ (fun i σ' H' _ h => by obtain ⟨_, _, _, _, _, _, _, _, _, h⟩ := h; exact SqL.of h) ?_ ?_
  · rintro i v σ' H6 hi ⟨y, z, ps1, rfl, g1, o1, n1, l1, w, hL⟩
    rw [List.getElem?_map] at hi
    obtain ⟨k, ek, rfl⟩ := Option.map_eq_some_iff.mp hi
    have il := (List.getElem?_eq_some_iff.mp ek).1
    obtain ⟨us, hR, hp1⟩ := w.r
    have ul := pairs_len hp1
    refine ⟨.inl ⟨rfl, _, SqL.of hR⟩, (by show 2 ≤ sizeLine; decide), fun T nT => ⟨R, us, .ref T, rfl, rfl, (same_new nT) _ _ hR, line_lt (by omega), ?_⟩⟩
    obtain ⟨w, kk⟩ := wr_add w nR hd hR hp1 nT (fr k)
    have hL := kk _ _ LR hL
    obtain ⟨a1, a2, a3⟩ := late.2 k (List.mem_of_getElem? ek)
    refine ⟨_, _, ps1 ++ [fr k], rfl, g1.add (fun h => ?_) (by show ("free" : Str) ∈ deeds; decide +kernel) (fun j e => by cases e; exact o1 _ a2), fun s hs => mem_snoc.mpr (.inl (o1 s hs)), fun s hs => ?_, by rw [List.length_append, List.length_singleton]; omega, w, hL⟩
    · rcases n1 _ h with z | ⟨j, hj, e⟩
      · exact a3 z
      · cases e
        exact not_in_take late.1 ek hj
    · rw [take_snoc ek]
      rcases mem_snoc.mp hs with z | z
      · exact (n1 s z).imp id fun ⟨j, hj, e⟩ => ⟨j, mem_snoc.mpr (.inl hj), e⟩
      · exact .inr ⟨k, mem_snoc.mpr (.inr rfl), z⟩
  rintro σ' H6 ⟨y, z, ps1, rfl, g1, o1, n1, l1, w, hL⟩
  rw [List.length_map] at n1 l1
  rw [List.take_length] at n1
  refine q H6 R ps1 w.bt w.dr nR w.r ⟨g1, fun s hs => ?_, fun k hk => o1 _ (done k hk), by omega, fun hc e => ?_⟩
  · rcases n1 s hs with z | ⟨j, hj, rfl⟩
    · exact hf.sub s z
    · exact (late.2 j hj).1
  · obtain ⟨k, hk⟩ := List.exists_mem_of_ne_nil _ hc
    have := o1 _ (done k hk)
    rw [e] at this
    exact nomatch this
def sp__law_some (K : PySem.W.Frag) : Sp := fun vs H Q _ => ∃ (st scr p : Addr) (sh : Int) (cs : List Str), vs = [.ref st, .ref p, .int sh] ∧ DrAt H st scr ∧ H p = some (.lst (cs.map V.str)) ∧ p ≠ st ∧ cs.length ≤ 60 ∧ 0 < sh ∧ sh ≤ 1000 ∧
  ∀ (H' : Hp) (D : Addr) (zs : List Str), Bt st H H' → DrAt H' st scr → H D = none → H' D = some (.lst (zs.map V.str)) → zs.Sublist cs → Q (.ref D) H'
theorem len__law_some {vs : List V} {H : Hp} {Q : VK} {E : XK} (h : sp__law_some K vs H Q E) : vs.length = 3 := by
  obtain ⟨_, _, _, _, _, rfl, _⟩ := h
  rfl
theorem ok__law_some {f : Addr} {fd : FuncData} {f__law_draw : Addr} {fd__law_draw : FuncData} (F : Fun K "_law_some" "_law_some" s__law_some f fd) (T : Gs K mg t_LETTERS t_LONGEST_NAME a_DEEDS a_RESERVED a_BadName a_BadPlan a_Plan) (c__law_draw : Cal P w K mg base CX0 1 "_law_draw" f__law_draw fd__law_draw ["_law_state_here", "_law_many"] (sp__law_draw K)) : FnOk P w K mg base CX0 2 f fd ["_law_state_here", "_law_row", "_law_share"] (sp__law_some K) := by
  refine F.ok sc__law_some (fun vs H Q E h => len__law_some h) (fun cdv A outer s H vs Q E hr h => ?_)
  obtain ⟨st, scr, p, sh, cs, rfl, hd, hp, hne, lc, s0, s1, q⟩ := h
  refine ⟨_, (pss_one (ps_ret (pe_lc (own := [("_law_item", 3)]) (g := gName 3) (by rfl) sc__law_some.nd (pi_list (v_ 1)) (blkOk_by (N := ["_law_state_here", "_law_row", "_law_share", "_law_item"]) (sc := defScope s__law_some) (by decide +kernel)) (fun _ _ _ _ _ => pg_name (i := 3) sc__law_some.nd rfl (Or.inl rfl)) (fun _ _ _ _ _ => pts_one (pt_c op_gtM (pe_call c__law_draw.G (hr.mono (by first | decide | omega)) rfl c__law_draw.m c__law_draw.kp c__law_draw.b .nil pass0 (pa_cons (v_ 0) (pa_cons (v_ 2) pa_nil))) pe_int)) (fun _ _ _ _ _ => (v_ 3))))), ?_⟩
  refine ⟨p, rfl, ⟨_, SqL.of hp⟩, fun D nD => ?_⟩
  have Ds := hd.ne_new nD
  have Dc := hd.ne_scr nD
  refine lc_it (walk_list (xs := cs.map V.str)) (fun i H' => Bt st H H' ∧ DrAt H' st scr ∧ ∃ zs : List Str, H' D = some (.lst (zs.map V.str)) ∧ zs.Sublist (cs.take i)) ⟨Bt.same (same_new nD), hd.new (same_new nD), [], upd_same, List.Sublist.refl _⟩ (fun _ _ _ h => SqL.of (h.1 _ _ hne hp)) ?_ ?_
  · rintro i v H1 H2 hi ⟨b, d, zs, hD, sb⟩ ⟨rfl, hv⟩
    rw [List.getElem?_map] at hv
    obtain ⟨k, ek, rfl⟩ := Option.map_eq_some_iff.mp hv
    rw [List.length_map] at hi
    refine ⟨rfl, ?_⟩
    refine ⟨st, scr, sh, rfl, d, s0, many_small s0 (by omega), fun r l r0 r1 d2 => ?_⟩
    have hD2 : upd H2 st (.lst l) D = some (.lst (zs.map V.str)) := by rw [upd_ne Ds]; exact hD
    have b2 := b.trans (Bt.st (st := st) (o := .lst l))
    generalize upd H2 st (.lst l) = H3 at d2 hD2 b2 ⊢
    refine ite2 (fun c => ?_) (fun c => ?_)
    · refine ⟨_, hD2, line_lt ?_, fun b o n e => ?_, d2.at Ds Dc, zs ++ [k], ?_, ?_⟩
      · have := sb.length_le
        rw [List.length_take] at this
        rw [List.length_map]
        omega
      · rw [upd_ne (ne_of_none e nD)]
        exact b2 b o n e
      · rw [upd_same, List.map_append]
        rfl
      · rw [take_snoc ek]
        exact sb.append (List.Sublist.refl _)
    · refine ⟨b2, d2, zs, hD2, ?_⟩
      rw [take_snoc ek]
      exact sb.trans (List.sublist_append_left _ _)
  · rintro H1 ⟨b, d, zs, hD, sb⟩
    rw [List.length_map, List.take_length] at sb
    exact q H1 D zs b d nD hD sb
theorem Wild.plan {K : PySem.W.Frag} {H : Hp} {x : Addr} {cs lk kp : List Str} {ps : List Stp} {Q : VK} {E : XK} (w : Wild cs ps) (nc : cs ≠ []) (hn : ∀ z ∈ cs, isName z = true) (l : lk.Nodup ∧ ∀ z ∈ lk, z ∈ cs) (k : kp.Nodup ∧ ∀ z ∈ kp, z ∈ cs) (q : ∀ (H' : Hp), Same H H' → PlAt K H' x ps (among ps lk) (among ps kp) → Q .non H') : PlOut K H x ps lk kp Q E := by
  have ok : ∀ z ∈ planNames ps lk kp, z ∈ cs := fun z hz => by
    unfold planNames at hz
    rcases List.mem_append.mp hz with h | h
    · rcases List.mem_append.mp h with h | h
      · obtain ⟨s, hs, rfl⟩ := List.mem_map.mp h
        exact w.sub s hs
      · exact l.2 z h
    · exact k.2 z h
  unfold PlOut
  rw [bad_none fun z hz => hn z (ok z hz)]
  have g : planFits ps lk kp = true := by
    unfold planFits
    rw [w.fits (w.ne nc), keys_fits w l.1 l.2, keys_fits w k.1 k.2]
    rfl
  show if planFits ps lk kp = true then _ else _
  rw [if_pos g]
  exact q
theorem Wild.names {cs lk kp : List Str} {ps : List Stp} (w : Wild cs ps) (hn : ∀ z ∈ cs, isName z = true ∧ z.length ≤ 12) (l : ∀ z ∈ lk, z ∈ cs) (k : ∀ z ∈ kp, z ∈ cs) : ∀ z ∈ planNames ps lk kp, z.length ≤ 1000 ∧ Asc z := fun z hz => by
  have m : z ∈ cs := by
    unfold planNames at hz
    rcases List.mem_append.mp hz with h | h
    · rcases List.mem_append.mp h with h | h
      · obtain ⟨s, hs, rfl⟩ := List.mem_map.mp h
        exact w.sub s hs
      · exact l z h
    · exact k z h
  have := (hn z m).2
  exact ⟨by omega, isName_asc (hn z m).1⟩
theorem stL_same {K : PySem.W.Frag} {H H' : Hp} {R : Addr} {ps : List Stp} (h : StL K H R ps) (s : Same H H') : StL K H' R ps := by
  obtain ⟨vs, h1, h2⟩ := h
  exact ⟨vs, s.seq h1, pairs_same h2 s⟩
theorem stL_bt {K : PySem.W.Frag} {H H' : Hp} {st R : Addr} {ps : List Stp} (h : ∃ us, H R = some (.lst us) ∧ PairsIn K H us ps) (n : R ≠ st) (hs : ∃ l, H st = some (.lst l)) (s : Bt st H H') : ∃ us, H' R = some (.lst us) ∧ PairsIn K H' us ps := by
  obtain ⟨us, h1, h2⟩ := h
  exact ⟨us, s _ _ n h1, pairs_bt h2 (NT.lst hs) s⟩
end
section
variable {P : Program} {w : World} {K : PySem.W.Frag} {mg : Str → Option Value} {base : Heap}
variable {t_LETTERS t_LONGEST_NAME : Tok} {a_DEEDS a_RESERVED a_BadName a_BadPlan a_Plan : Addr}
/-! ### _law_same -/
def sp__law_is_int (K : PySem.W.Frag) : Sp := fun vs H Q _ => ∃ i : Int, vs = [.int i] ∧ Q (.bl true) H
theorem len__law_is_int {vs : List V} {H : Hp} {Q : VK} {E : XK} (h : sp__law_is_int K vs H Q E) : vs.length = 1 := by
  obtain ⟨_, rfl, _⟩ := h
  rfl
theorem ok__law_is_int {f : Addr} {fd : FuncData} (F : Fun K "_law_is_int" "_law_is_int" s__law_is_int f fd) (T : Gs K mg t_LETTERS t_LONGEST_NAME a_DEEDS a_RESERVED a_BadName a_BadPlan a_Plan) : FnOk P w K mg base CX0 1 f fd ["_law_thing"] (sp__law_is_int K) := by
  refine F.ok sc__law_is_int (fun vs H Q E h => len__law_is_int h) (fun cdv A outer s H vs Q E hr h => ?_)
  obtain ⟨i, rfl, q⟩ := h
  refine ⟨_, (pss_one (ps_ret (pe_andM (pe_callB (isiK K) (by rfl) T.z_isinstance (by decide +kernel) (pa_cons (v_ 0) (pa_cons (pe_bltn (v := .ty "int") (u := .type "int") (by rfl) T.z_int (by decide +kernel) rfl) pa_nil))) (pe_one (pe_notM (pe_callB (isiK K) (by rfl) T.z_isinstance (by decide +kernel) (pa_cons (v_ 0) (pa_cons (pe_bltn (v := .ty "bool") (u := .type "bool") (by rfl) T.z_bool (by decide +kernel) rfl) pa_nil)))))))), ?_⟩
  refine ⟨_, _, _, _, true, rfl, .ty _, .base (.int i), kit_ty (by decide +kernel), ?_⟩
  exact ⟨_, _, _, _, false, rfl, .ty _, .base (.int i), kit_ty (by decide +kernel), q⟩
def Fl (x : V) : Prop := (∃ i : Int, x = .int i) ∨ (∃ z : Str, x = .str z) ∨ (∃ b : Bool, x = .bl b) ∨ x = .non
def SameV (K : PySem.W.Frag) (H : Hp) : Nat → V → V → Prop
  | 0, _, _ => False
  | n + 1, x, y => (x = y ∧ Fl y) ∨ (∃ (p q : Addr) (xs ys : List V), x = .ref p ∧ y = .ref q ∧ SqT K H p xs ∧ SqT K H q ys ∧ xs.length = ys.length ∧ ys.length ≤ 1000 ∧ ∀ (i : Nat) (a b : V), xs[i]? = some a → ys[i]? = some b → SameV K H n a b) ∨
      (∃ (p q : Addr) (xs ys : List V), x = .ref p ∧ y = .ref q ∧ H p = some (.lst xs) ∧ H q = some (.lst ys) ∧ xs.length = ys.length ∧ ys.length ≤ 1000 ∧ ∀ (i : Nat) (a b : V), xs[i]? = some a → ys[i]? = some b → SameV K H n a b) ∨
      ∃ (p q : Addr) (ks ls : List (Key × V)), x = .ref p ∧ y = .ref q ∧ H p = some (.dK ks) ∧ H q = some (.dK ls) ∧ ks.length = ls.length ∧ n ≠ 0 ∧ ∀ (i : Nat) (k : Key) (v : V), ls[i]? = some (k, v) → ∃ u : V, Fl u ∧ valV ls k = some u ∧ valV ks k = some u
theorem same_fl {H : Hp} {n : Nat} {x : V} (h : Fl x) : SameV K H (n + 1) x x := .inl ⟨rfl, h⟩
def spSame (n : Nat) : PySem.W.Frag → Sp := fun K vs H Q _ => ∃ x y : V, vs = [x, y] ∧ SameV K H n x y ∧ Q (.bl true) H
theorem len_same {n : Nat} {vs : List V} {H : Hp} {Q : VK} {E : XK} (h : spSame n K vs H Q E) : vs.length = 2 := by
  obtain ⟨_, _, rfl, _⟩ := h
  rfl
theorem same_step {n k : Nat} {f : Addr} {fd : FuncData} {f__law_is_int : Addr} {fd__law_is_int : FuncData} (F : Fun K "_law_same" "_law_same" s__law_same f fd) (T : Gs K mg t_LETTERS t_LONGEST_NAME a_DEEDS a_RESERVED a_BadName a_BadPlan a_Plan)
    (c__law_is_int : Cal P w K mg base CX0 1 "_law_is_int" f__law_is_int fd__law_is_int ["_law_thing"] (sp__law_is_int K)) (c__law_same : Cal P w K mg base CX0 k "_law_same" f fd ["_law_actual", "_law_due"] (spSame n K)) (hk : 1 ≤ k) : FnOk P w K mg base CX0 (k + 1) f fd ["_law_actual", "_law_due"] (spSame (n + 1) K) := by
  refine F.ok sc__law_same (fun vs H Q E h => len_same h) (fun cdv A outer s H vs Q E hr h => ?_)
  obtain ⟨x, y, rfl, h, q⟩ := h
  refine ⟨_, (pss_cons (ps_if (pt_c op_isM (v_ 1) pe_non) (pss_one (ps_ret (pe_c op_isM (v_ 0) pe_non))) pss_nil) (pss_cons (ps_if (pt_c op_isM (v_ 1) pe_bl) (pss_one (ps_ret (pe_c op_isM (v_ 0) pe_bl))) pss_nil) (pss_cons (ps_if (pt_c op_isM (v_ 1) pe_bl) (pss_one (ps_ret (pe_c op_isM (v_ 0) pe_bl))) pss_nil) (pss_cons (ps_if (pt_t K (pe_callB (isiK K) (by rfl) T.z_isinstance (by decide +kernel) (pa_cons (v_ 1) (pa_cons (pe_bltn (v := .ty "int") (u := .type "int") (by rfl) T.z_int (by decide +kernel) rfl) pa_nil)))) (pss_one (ps_ret (pe_andM (pe_call c__law_is_int.G (hr.mono (by first | decide | omega)) rfl c__law_is_int.m c__law_is_int.kp c__law_is_int.b .nil pass0 (pa_cons (v_ 0) pa_nil)) (pe_one (pe_c (eqK K hr.units) (v_ 0) (v_ 1)))))) pss_nil) (pss_cons (ps_if (pt_t K (pe_callB (isiK K) (by rfl) T.z_isinstance (by decide +kernel) (pa_cons (v_ 1) (pa_cons (pe_bltn (v := .ty "str") (u := .type "str") (by rfl) T.z_str (by decide +kernel) rfl) pa_nil)))) (pss_one (ps_ret (pe_andM (pe_callB (isiK K) (by rfl) T.z_isinstance (by decide +kernel) (pa_cons (v_ 0) (pa_cons (pe_bltn (v := .ty "str") (u := .type "str") (by rfl) T.z_str (by decide +kernel) rfl) pa_nil))) (pe_one (pe_c (eqK K hr.units) (v_ 0) (v_ 1)))))) pss_nil) (pss_cons (ps_if (pt_t K (pe_callB (isiK K) (by rfl) T.z_isinstance (by decide +kernel) (pa_cons (v_ 1) (pa_cons (pe_bltn (v := .ty "dict") (u := .type "dict") (by rfl) T.z_dict (by decide +kernel) rfl) pa_nil)))) (pss_cons (ps_if (PW.pt (pw_or (pt_not (pt_t K (pe_callB (isiK K) (by rfl) T.z_isinstance (by decide +kernel) (pa_cons (v_ 0) (pa_cons (pe_bltn (v := .ty "dict") (u := .type "dict") (by rfl) T.z_dict (by decide +kernel) rfl) pa_nil))))) (pw_or1 (pt_c (neK K hr.units) (pe_callB (lenK K) (by rfl) T.z_len PySem.boot_len (pa_cons (v_ 0) pa_nil)) (pe_callB (lenK K) (by rfl) T.z_len PySem.boot_len (pa_cons (v_ 1) pa_nil)))))) (pss_one (ps_ret pe_bl)) pss_nil) (pss_cons (ps_lock (ps_for PassesOwn.never rfl (pi_keys (v_ 1)) (pg_name (i := 3) sc__law_same.nd rfl (.inl rfl)) (pss_one (ps_if (PW.pt (pw_or (pt_cmp (pc_dnotin (hu_of hr) (v_ 3) (v_ 0))) (pw_or1 (pt_not (pt_t K (pe_call c__law_same.G (hr.mono (by first | decide | omega)) rfl c__law_same.m c__law_same.kp c__law_same.b .nil pass0 (pa_cons (pe_dget (hu_of hr) (v_ 0) (v_ 3) (fun _ _ => rfl)) (pa_cons (pe_dget (hu_of hr) (v_ 1) (v_ 3) (fun _ _ => rfl)) pa_nil)))))))) (pss_one (ps_ret pe_bl)) pss_nil)))) (pss_one (ps_ret pe_bl)))) pss_nil) (pss_cons (ps_if (PW.pt (pw_and (pt_t K (pe_callB (isiK K) (by rfl) T.z_isinstance (by decide +kernel) (pa_cons (v_ 1) (pa_cons (pe_bltn (v := .ty "list") (u := .type "list") (by rfl) T.z_list (by decide +kernel) rfl) pa_nil)))) (pw_and1 (pt_not (pt_t K (pe_callB (isiK K) (by rfl) T.z_isinstance (by decide +kernel) (pa_cons (v_ 0) (pa_cons (pe_bltn (v := .ty "list") (u := .type "list") (by rfl) T.z_list (by decide +kernel) rfl) pa_nil)))))))) (pss_one (ps_ret pe_bl)) pss_nil) (pss_cons (ps_if (PW.pt (pw_and (pt_t K (pe_callB (isiK K) (by rfl) T.z_isinstance (by decide +kernel) (pa_cons (v_ 1) (pa_cons (pe_bltn (v := .ty "tuple") (u := .type "tuple") (by rfl) T.z_tuple (by decide +kernel) rfl) pa_nil)))) (pw_and1 (pt_not (pt_t K (pe_callB (isiK K) (by rfl) T.z_isinstance (by decide +kernel) (pa_cons (v_ 0) (pa_cons (pe_bltn (v := .ty "tuple") (u := .type "tuple") (by rfl) T.z_tuple (by decide +kernel) rfl) pa_nil)))))))) (pss_one (ps_ret pe_bl)) pss_nil) (pss_cons (ps_if (pt_c (neK K hr.units) (pe_callB (lenK K) (by rfl) T.z_len PySem.boot_len (pa_cons (v_ 0) pa_nil)) (pe_callB (lenK K) (by rfl) T.z_len PySem.boot_len (pa_cons (v_ 1) pa_nil))) (pss_one (ps_ret pe_bl)) pss_nil) (pss_cons (ps_for PassesOwn.never rfl (pi_range1 rfl T.z_range (pa_cons (pe_callB (lenK K) (by rfl) T.z_len PySem.boot_len (pa_cons (v_ 1) pa_nil)) pa_nil)) (pg_name (i := 2) sc__law_same.nd rfl (.inl rfl)) (pss_one (ps_if (pt_not (pt_t K (pe_call c__law_same.G (hr.mono (by first | decide | omega)) rfl c__law_same.m c__law_same.kp c__law_same.b .nil pass0 (pa_cons (e_x K (v_ 0) (v_ 2)) (pa_cons (e_x K (v_ 1) (v_ 2)) pa_nil))))) (pss_one (ps_ret pe_bl)) pss_nil))) (pss_one (ps_ret pe_bl)))))))))))), ?_⟩
  rcases h with ⟨rfl, ⟨i, rfl⟩ | ⟨z, rfl⟩ | ⟨c, rfl⟩ | rfl⟩ | ⟨a, b, xs, ys, rfl, rfl, ha, hb, hl, h1, hs⟩ | ⟨a, b, xs, ys, rfl, rfl, ha, hb, hl, h1, hs⟩ | ⟨a, b, ks, ls, rfl, rfl, ha, hb, hl, hn, hs⟩
  · refine ⟨_, _, _, _, true, rfl, .ty _, .base (.int i), kit_ty (by decide +kernel), ?_⟩
    refine ⟨i, rfl, ?_⟩
    have e : decide (i = i) = true := decide_eq_true rfl
    rw [← e] at q
    exact q
  · refine ⟨_, _, _, _, false, rfl, .ty _, .base (.str z), kit_ty (by decide +kernel), ?_⟩
    refine ⟨_, _, _, _, true, rfl, .ty _, .base (.str z), kit_ty (by decide +kernel), ?_⟩
    refine ⟨_, _, _, _, true, rfl, .ty _, .base (.str z), kit_ty (by decide +kernel), ?_⟩
    have e : decide (z = z) = true := decide_eq_true rfl
    rw [← e] at q
    exact q
  · cases c with
    | true => exact q
    | false => exact q
  · exact q
  · have tb := ty_tup hb
    refine ⟨_, _, _, _, false, rfl, .ty _, tb, kit_ty (by decide +kernel), ?_⟩
    refine ⟨_, _, _, _, false, rfl, .ty _, tb, kit_ty (by decide +kernel), ?_⟩
    refine ⟨_, _, _, _, false, rfl, .ty _, tb, kit_ty (by decide +kernel), ?_⟩
    refine ⟨_, _, _, _, false, rfl, .ty _, tb, kit_ty (by decide +kernel), ?_⟩
    refine ⟨_, _, _, _, true, rfl, .ty _, tb, kit_ty (by decide +kernel), ?_⟩
    refine ⟨_, _, _, _, true, rfl, .ty _, ty_tup ha, kit_ty (by decide +kernel), ?_⟩
    refine .inl ⟨_, .inr ha, .inl ⟨_, .inr hb, ?_⟩⟩
    refine ite2 (fun e => ?_) (fun _ => ?_)
    · exact absurd e (by rw [hl]; simp)
    refine .inl ⟨_, .inr hb, _, rfl, by omega, by omega, ?_⟩
    refine for_range (lo := 0) (n := ys.length) (fun i σ' H' => H' = H ∧ ∃ y, σ' = [some (.ref a), some (.ref b), y, none]) ⟨rfl, _, rfl⟩ ?_ ?_
    · rintro i σ' H' hi ⟨rfl, y, rfl⟩
      have ex := List.getElem?_eq_getElem (l := xs) (i := i) (by omega)
      have ey := List.getElem?_eq_getElem (l := ys) hi
      refine ⟨_, .inr ha, xs[i], ?_, _, .inr hb, ys[i], ?_, _, _, rfl, hs i _ _ ex ey, ?_⟩
      · rw [show (0 : Int) + i = ((i : Nat) : Int) by omega]
        exact atI_nat ex
      · rw [show (0 : Int) + i = ((i : Nat) : Int) by omega]
        exact atI_nat ey
      exact ⟨rfl, _, rfl⟩
    · rintro σ' H' ⟨rfl, y, rfl⟩
      exact q
  · have tb : TyX K H (.ref b) (.type "list") := .base (.lst hb)
    refine ⟨_, _, _, _, false, rfl, .ty _, tb, kit_ty (by decide +kernel), ?_⟩
    refine ⟨_, _, _, _, false, rfl, .ty _, tb, kit_ty (by decide +kernel), ?_⟩
    refine ⟨_, _, _, _, false, rfl, .ty _, tb, kit_ty (by decide +kernel), ?_⟩
    refine ⟨_, _, _, _, true, rfl, .ty _, tb, kit_ty (by decide +kernel), ?_⟩
    refine ⟨_, _, _, _, true, rfl, .ty _, .base (.lst ha), kit_ty (by decide +kernel), ?_⟩
    refine ⟨_, _, _, _, false, rfl, .ty _, tb, kit_ty (by decide +kernel), ?_⟩
    refine .inl ⟨_, .inl (SqL.of ha), .inl ⟨_, .inl (SqL.of hb), ?_⟩⟩
    refine ite2 (fun e => ?_) (fun _ => ?_)
    · exact absurd e (by rw [hl]; simp)
    refine .inl ⟨_, .inl (SqL.of hb), _, rfl, by omega, by omega, ?_⟩
    refine for_range (lo := 0) (n := ys.length) (fun i σ' H' => H' = H ∧ ∃ y, σ' = [some (.ref a), some (.ref b), y, none]) ⟨rfl, _, rfl⟩ ?_ ?_
    · rintro i σ' H' hi ⟨rfl, y, rfl⟩
      have ex := List.getElem?_eq_getElem (l := xs) (i := i) (by omega)
      have ey := List.getElem?_eq_getElem (l := ys) hi
      refine ⟨_, .inl (SqL.of ha), xs[i], ?_, _, .inl (SqL.of hb), ys[i], ?_, _, _, rfl, hs i _ _ ex ey, ?_⟩
      · rw [show (0 : Int) + i = ((i : Nat) : Int) by omega]
        exact atI_nat ex
      · rw [show (0 : Int) + i = ((i : Nat) : Int) by omega]
        exact atI_nat ey
      exact ⟨rfl, _, rfl⟩
    · rintro σ' H' ⟨rfl, y, rfl⟩
      exact q
  · have tb : TyX K H (.ref b) (.type "dict") := .base (.dK hb)
    refine ⟨_, _, _, _, false, rfl, .ty _, tb, kit_ty (by decide +kernel), ?_⟩
    refine ⟨_, _, _, _, false, rfl, .ty _, tb, kit_ty (by decide +kernel), ?_⟩
    refine ⟨_, _, _, _, true, rfl, .ty _, tb, kit_ty (by decide +kernel), ?_⟩
    refine ⟨_, _, _, _, true, rfl, .ty _, .base (.dK ha), kit_ty (by decide +kernel), ?_⟩
    refine .inr ⟨_, ha, .inr ⟨_, hb, ?_⟩⟩
    refine ite2 (fun e => absurd e (by rw [hl]; simp)) (fun _ => ?_)
    refine ⟨b, .dK ls, hb, True.intro, fun od => ?_⟩
    refine ⟨b, od, rfl, .inl ⟨ls, upd_same, ?_⟩⟩
    have rb : Rd (upd H b (.frz od (.dK ls))) b (.dK ls) := .inr ⟨od, upd_same⟩
    have ra : ∃ ks', ks' = ks ∧ Rd (upd H b (.frz od (.dK ls))) a (.dK ks') := by
      by_cases e : a = b
      · rw [e, hb] at ha
        cases ha
        exact ⟨_, rfl, e ▸ rb⟩
      · exact ⟨ks, rfl, .inl (by rw [upd_ne e]; exact ha)⟩
    obtain ⟨_, rfl, ra⟩ := ra
    refine for_it walk_keys (fun i σ' H' => H' = upd H b (.frz od (.dK ls)) ∧ ∃ y, σ' = [some (.ref a), some (.ref b), none, y]) ⟨rfl, _, rfl⟩ (fun i σ' H' _ h => by rw [h.1]; exact upd_same) ?_ ?_
    · rintro i x σ' H2 H3 hi ⟨rfl, y, rfl⟩ ⟨rfl, k, v, hk, rfl⟩
      obtain ⟨m, hm, h1, h2⟩ := hs i k v hk
      have ga : DGet (upd H b (.frz od (.dK ls))) a (kV k) (some m) := .inl ⟨_, k, ra, rfl, h2.symm⟩
      have gb : DGet (upd H b (.frz od (.dK ls))) b (kV k) (some m) := .inl ⟨_, k, rb, rfl, h1.symm⟩
      refine ⟨a, _, rfl, ga, _, rfl, ?_⟩
      refine ⟨a, _, rfl, ga, b, _, rfl, gb, _, _, rfl, ?_, ?_⟩
      · cases n with
        | zero => exact absurd rfl hn
        | succ n => exact same_fl hm
      · exact ⟨rfl, _, rfl⟩
    · rintro σ' H2 ⟨rfl, y, rfl⟩
      refine ⟨upd_same, ?_⟩
      rw [upd_upd, upd_id hb]
      exact q
theorem same_all {f : Addr} {fd : FuncData} {f__law_is_int : Addr} {fd__law_is_int : FuncData} (F : Fun K "_law_same" "_law_same" s__law_same f fd) (T : Gs K mg t_LETTERS t_LONGEST_NAME a_DEEDS a_RESERVED a_BadName a_BadPlan a_Plan)
    (c__law_is_int : Cal P w K mg base CX0 1 "_law_is_int" f__law_is_int fd__law_is_int ["_law_thing"] (sp__law_is_int K)) (b : Binds K fd ["_law_actual", "_law_due"] []) (kp : PySem.W.keepIn K (.ref f) = true) (m : mg "_law_same" = some (.ref f)) :
    ∀ n : Nat, FnOk P w K mg base CX0 (n + 2) f fd ["_law_actual", "_law_due"] (spSame n K)
  | 0 => ⟨fun _ _ _ _ h => len_same h, by
    intro A outer s H args us vs Q E _ _ _ _ h
    obtain ⟨_, _, _, h, _⟩ := h
    exact False.elim h⟩
  | n + 1 => same_step F T c__law_is_int ⟨same_all F T c__law_is_int b kp m n, b, kp, m⟩ (by omega)
def sp__law_same : PySem.W.Frag → Sp := spSame 24
theorem ok__law_same {f : Addr} {fd : FuncData} {f__law_is_int : Addr} {fd__law_is_int : FuncData} (F : Fun K "_law_same" "_law_same" s__law_same f fd) (T : Gs K mg t_LETTERS t_LONGEST_NAME a_DEEDS a_RESERVED a_BadName a_BadPlan a_Plan)
    (c__law_is_int : Cal P w K mg base CX0 1 "_law_is_int" f__law_is_int fd__law_is_int ["_law_thing"] (sp__law_is_int K)) (b : Binds K fd ["_law_actual", "_law_due"] []) (kp : PySem.W.keepIn K (.ref f) = true) (m : mg "_law_same" = some (.ref f)) :
    FnOk P w K mg base CX0 26 f fd ["_law_actual", "_law_due"] (sp__law_same K) := same_all F T c__law_is_int b kp m 24
theorem same_int {H : Hp} {n : Nat} (i : Int) : SameV K H (n + 1) (.int i) (.int i) := same_fl (.inl ⟨i, rfl⟩)
theorem same_str {H : Hp} {n : Nat} (z : Str) : SameV K H (n + 1) (.str z) (.str z) := same_fl (.inr (.inl ⟨z, rfl⟩))
theorem same_bl {H : Hp} {n : Nat} (b : Bool) : SameV K H (n + 1) (.bl b) (.bl b) := same_fl (.inr (.inr (.inl ⟨b, rfl⟩)))
theorem same_tupN {H : Hp} {t u : Addr} {xs ys : List V} {n : Nat} (h1 : SqT K H t xs) (h2 : SqT K H u ys) (hl : xs.length = ys.length) (h4 : ys.length ≤ 1000) (h : ∀ (i : Nat) (a b : V), xs[i]? = some a → ys[i]? = some b → SameV K H n a b) : SameV K H (n + 1) (.ref t) (.ref u) :=
  .inr (.inl ⟨t, u, _, _, rfl, rfl, h1, h2, hl, h4, h⟩)
theorem same_two {H : Hp} {t u : Addr} {w : Str} {x y : V} {m : Nat} (h1 : SqT K H t [.str w, x]) (h2 : SqT K H u [.str w, y]) (h : SameV K H (m + 1) x y) : SameV K H (m + 2) (.ref t) (.ref u) := by
  refine same_tupN h1 h2 rfl (by show 2 ≤ 1000; decide) fun i a b ha hb => ?_
  match i, ha, hb with
  | 0, ha, hb => cases ha; cases hb; exact same_str _
  | 1, ha, hb => cases ha; cases hb; exact h
theorem same_strs {H : Hp} {t u : Addr} {zs : List Str} {n : Nat} (h1 : SqT K H t (zs.map V.str)) (h2 : SqT K H u (zs.map V.str)) (hl : zs.length ≤ 1000) : SameV K H (n + 2) (.ref t) (.ref u) := by
  refine same_tupN h1 h2 rfl (by rw [List.length_map]; exact hl) fun i a b ha hb => ?_
  rw [ha] at hb
  cases hb
  rw [List.getElem?_map] at ha
  obtain ⟨z, hz, rfl⟩ := Option.map_eq_some_iff.mp ha
  exact same_str z
end
section
variable {P : Program} {w : World} {K : PySem.W.Frag} {mg : Str → Option Value} {base : Heap}
variable {t_LETTERS t_LONGEST_NAME : Tok} {a_DEEDS a_RESERVED a_BadName a_BadPlan a_Plan : Addr}
/-! ### steps by a rank -/
theorem nodup_le {l D : List Str} (n : l.Nodup) (s : ∀ x ∈ l, x ∈ D) : l.length ≤ D.length := by
  induction l generalizing D with
  | nil => exact Nat.zero_le _
  | cons x l ih =>
    obtain ⟨n1, n2⟩ := List.nodup_cons.mp n
    have hx : x ∈ D := s x List.mem_cons_self
    have h := ih (D := D.erase x) n2 fun y hy => (List.mem_erase_of_ne fun e => n1 (by rw [← e]; exact hy)).mpr (s y (List.mem_cons_of_mem _ hy))
    rw [List.length_erase_of_mem hx] at h
    have := List.length_pos_of_mem hx
    rw [List.length_cons]
    omega
structure Safe (cs : List Str) (n : Nat) (done : List Str) (ps : List Stp) : Prop where
  g : Good ps
  sub : ∀ s ∈ ps, s.2 ∈ cs
  t : ∀ j, tk j ∈ ps ↔ j ∈ done
  l : ∀ j, lo j ∈ ps ↔ j ∈ cs.take n
  f : ∀ j, fr j ∉ ps
  nd : done.Nodup ∧ ∀ j ∈ done, j ∈ cs
  len : ps.length ≤ n + done.length
theorem Safe.take {cs done : List Str} {n : Nat} {ps : List Stp} {k : Str} (h : Safe cs n done ps) (hk : k ∈ cs) (nk : k ∉ done) : Safe cs n (done ++ [k]) (ps ++ [tk k]) := by
  refine ⟨h.g.add (fun z => nk ((h.t k).mp z)) (by show ("take" : Str) ∈ deeds; decide +kernel) fun j e => absurd e (tk_fr k j), fun s hs => ?_, fun j => ?_, fun j => ?_, fun j z => ?_, ⟨?_, fun j hj => ?_⟩, ?_⟩
  · rcases mem_snoc.mp hs with z | z
    · exact h.sub s z
    · rw [z]; exact hk
  · rw [mem_snoc, mem_snoc, h.t]
    exact ⟨fun z => z.imp id fun e => congrArg Prod.snd e, fun z => z.imp id fun e => by rw [e]⟩
  · rw [mem_snoc, h.l]
    exact ⟨fun z => z.elim id fun e => absurd e.symm (tk_lo k j), .inl⟩
  · rcases mem_snoc.mp z with z | z
    · exact h.f j z
    · exact absurd z.symm (tk_fr k j)
  · exact List.nodup_append.mpr ⟨h.nd.1, by simp, fun a ha b hb e => nk (by rw [← List.mem_singleton.mp hb, ← e]; exact ha)⟩
  · rcases mem_snoc.mp hj with z | z
    · exact h.nd.2 j z
    · rw [z]; exact hk
  · have := h.len
    rw [List.length_append, List.length_append, List.length_singleton, List.length_singleton]
    omega
theorem Safe.look {cs done : List Str} {n : Nat} {ps : List Stp} {k : Str} (h : Safe cs n done ps) (nd : cs.Nodup) (e : cs[n]? = some k) : Safe cs (n + 1) done (ps ++ [lo k]) := by
  have kt := not_in_take nd e
  refine ⟨h.g.add (fun z => kt ((h.l k).mp z)) (by show ("look" : Str) ∈ deeds; decide +kernel) fun j e => absurd e (lo_fr k j), fun s hs => ?_, fun j => ?_, fun j => ?_, fun j z => ?_, h.nd, ?_⟩
  · rcases mem_snoc.mp hs with z | z
    · exact h.sub s z
    · rw [z]; exact List.mem_of_getElem? e
  · rw [mem_snoc, h.t]
    exact ⟨fun z => z.elim id fun e => absurd e (tk_lo j k), .inl⟩
  · rw [mem_snoc, h.l, take_snoc e, mem_snoc]
    exact ⟨fun z => z.imp id fun e => congrArg Prod.snd e, fun z => z.imp id fun e => by rw [e]⟩
  · rcases mem_snoc.mp z with z | z
    · exact h.f j z
    · exact absurd z.symm (lo_fr k j)
  · have := h.len
    rw [List.length_append, List.length_singleton]
    omega
theorem first_str {zs : List Str} {z : Str} (h : z ∈ zs) : ∃ n : Nat, zs[n]? = some z ∧ ∀ j : Nat, j < n → zs[j]? ≠ some z := by
  obtain ⟨n, hn, e⟩ := List.getElem_of_mem h
  obtain ⟨k, _, h1, h2⟩ := st_least (p := fun n => zs[n]? = some z) n (by rw [List.getElem?_eq_getElem hn, e])
  exact ⟨k, h1, h2⟩
theorem eqV_str {a b : Str} : eqV (.str a) (.str b) = decide (a = b) := by
  show (a == b) = _
  rw [Bool.eq_iff_iff, beq_iff_eq, decide_eq_true_iff]
/-- what .index of a text in a list of texts asks -/
theorem idx_str {zs : List Str} {z : Str} (hz : z ∈ zs) : ∃ n : Nat, (zs.map V.str)[n]? = some (.str z) ∧ eqV (.str z) (.str z) = true ∧ ∀ (m : Nat) (u : V), m < n → (zs.map V.str)[m]? = some u → eqV u (.str z) = false := by
  obtain ⟨n, h1, h2⟩ := first_str hz
  refine ⟨n, by rw [List.getElem?_map, h1]; rfl, by rw [eqV_str, decide_eq_true rfl], fun m u hm hu => ?_⟩
  rw [List.getElem?_map] at hu
  obtain ⟨y, e, rfl⟩ := Option.map_eq_some_iff.mp hu
  rw [eqV_str]
  exact decide_eq_false fun c => h2 m hm (by rw [e, c])
def sp__law_safe_steps (K : PySem.W.Frag) : Sp := fun vs H Q _ => ∃ (st scr p m : Addr) (ah : Int) (cs ms : List Str), vs = [.ref p, .ref m, .int ah] ∧ DrAt H st scr ∧ H p = some (.lst (cs.map V.str)) ∧ p ≠ st ∧ H m = some (.lst (ms.map V.str)) ∧ m ≠ st ∧ ms.Perm cs ∧ cs.Nodup ∧ cs.length ≤ 4 ∧
  ∀ (H' : Hp) (R : Addr) (ps : List Stp), Bt st H H' → DrAt H' st scr → H R = none → (∃ us, H' R = some (.lst us) ∧ PairsIn K H' us ps) → Wild cs ps → Q (.ref R) H'
theorem len__law_safe_steps {vs : List V} {H : Hp} {Q : VK} {E : XK} (h : sp__law_safe_steps K vs H Q E) : vs.length = 3 := by
  obtain ⟨_, _, _, _, _, _, _, rfl, _⟩ := h
  rfl
theorem ok__law_safe_steps {f : Addr} {fd : FuncData} (F : Fun K "_law_safe_steps" "_law_safe_steps" s__law_safe_steps f fd) (T : Gs K mg t_LETTERS t_LONGEST_NAME a_DEEDS a_RESERVED a_BadName a_BadPlan a_Plan) : FnOk P w K mg base CX0 1 f fd ["_law_carried", "_law_rank", "_law_ahead"] (sp__law_safe_steps K) := by
  refine F.ok sc__law_safe_steps (fun vs H Q E h => len__law_safe_steps h) (fun cdv A outer s H vs Q E hr h => ?_)
  obtain ⟨st, scr, p, m, ah, cs, ms, rfl, hd, hp, hne, hm, hms, pm, nd, lc, q⟩ := h
  refine ⟨_, (pss_cons (ps_set (i := 3) sc__law_safe_steps.nd rfl (.inl rfl) (pe_lst pa_nil)) (pss_cons (ps_set (i := 4) sc__law_safe_steps.nd rfl (.inl rfl) (pe_lst pa_nil)) (pss_cons (ps_for PassesOwn.never rfl (pi_list (v_ 0)) (pg_name (i := 5) sc__law_safe_steps.nd rfl (.inl rfl)) (pss_cons (ps_for PassesOwn.never rfl (pi_list (v_ 1)) (pg_name (i := 6) sc__law_safe_steps.nd rfl (.inl rfl)) (pss_one (ps_if (PW.pt (pw_and (pt_c (inK K) (v_ 6) (v_ 0)) (pw_and (pt_c (notInK K) (v_ 6) (v_ 4)) (pw_and1 (pt_c op_leM (pe_bm PySem.F.plainAttrs_list PySem.F.slot_list_index PySem.F.type_list_index (mindexK K) (v_ 1) (pa_cons (v_ 6) pa_nil)) (pe_op (addK K) (pe_bm PySem.F.plainAttrs_list PySem.F.slot_list_index PySem.F.type_list_index (mindexK K) (v_ 1) (pa_cons (v_ 5) pa_nil)) (v_ 2))))))) (pss_cons (ps_expr (pe_bm PySem.F.plainAttrs_list PySem.F.slot_list_append PySem.F.type_list_append mt_append (v_ 3) (pa_cons (pe_tup (pa_cons pe_str (pa_cons (v_ 6) pa_nil))) pa_nil))) (pss_one (ps_expr (pe_bm PySem.F.plainAttrs_list PySem.F.slot_list_append PySem.F.type_list_append mt_append (v_ 4) (pa_cons (v_ 6) pa_nil))))) pss_nil))) (pss_one (ps_expr (pe_bm PySem.F.plainAttrs_list PySem.F.slot_list_append PySem.F.type_list_append mt_append (v_ 3) (pa_cons (pe_tup (pa_cons pe_str (pa_cons (v_ 5) pa_nil))) pa_nil)))))) (pss_one (ps_ret (v_ 3)))))), ?_⟩
  refine ⟨Nat.zero_le _, fun R nR => ?_⟩
  refine ⟨Nat.zero_le _, fun Dn nE => ?_⟩
  have ER : Dn ≠ R := new_ne nE
  have nE0 := free_new nE
  have dEs := hd.ne_new nE0
  have dEc := hd.ne_scr nE0
  have sm0 := (same_new (o := .lst []) nR).trans (same_new (o := .lst []) nE)
  have w0 : WR K H (upd (upd H R (.lst [])) Dn (.lst [])) st scr R [] := ⟨Bt.same sm0, hd.new sm0, [], by rw [upd_ne ER.symm, upd_same], .nil⟩
  have e0 : (upd (upd H R (.lst [])) Dn (.lst [])) Dn = some (.lst (([] : List Str).map V.str)) := upd_same
  generalize upd (upd H R (.lst [])) Dn (.lst []) = H1 at w0 e0 ⊢
  have lm := pm.length_eq
  refine ⟨p, rfl, ⟨_, SqL.of (w0.bt _ _ hne hp)⟩, ?_⟩
  have s0 : Safe cs 0 [] [] := ⟨Good.nil, (fun _ h => nomatch h), (fun j => by simp), (fun j => by simp), (fun _ h => nomatch h), ⟨List.nodup_nil, fun _ h => nomatch h⟩, Nat.zero_le _⟩
  refine for_list (K := K) (a := p) (xs := cs.map V.str) (fun i σ' H' => ∃ (y z : Option V) (ps : List Stp) (done : List Str), σ' = [some (.ref p), some (.ref m), some (.int ah), some (.ref R), some (.ref Dn), y, z] ∧ Safe cs i done ps ∧ WR K H H' st scr R ps ∧ H' Dn = some (.lst (done.map V.str))) ⟨_, _, [], [], rfl, s0, w0, e0⟩ (fun i σ' H' _ h => by obtain ⟨_, _, _, _, _, _, h, _⟩ := h; exact SqL.of (h.bt _ _ hne hp)) ?_ ?_
  · rintro i v σ' H2 hi ⟨y, z, ps, done, rfl, sf, w, he⟩
    rw [List.getElem?_map] at hi
    obtain ⟨k, ek, rfl⟩ := Option.map_eq_some_iff.mp hi
    have il := (List.getElem?_eq_some_iff.mp ek).1
    have km := List.mem_of_getElem? ek
    refine ⟨m, rfl, ⟨_, SqL.of (w.bt _ _ hms hm)⟩, ?_⟩
    refine for_list (K := K) (a := m) (xs := ms.map V.str) (fun j σ' H' => ∃ (z : Option V) (ps : List Stp) (done : List Str), σ' = [some (.ref p), some (.ref m), some (.int ah), some (.ref R), some (.ref Dn), some (.str k), z] ∧ Safe cs i done ps ∧ WR K H H' st scr R ps ∧ H' Dn = some (.lst (done.map V.str))) ⟨_, ps, done, rfl, sf, w, he⟩ (fun i σ' H' _ h => by obtain ⟨_, _, _, _, _, h, _⟩ := h; exact SqL.of (h.bt _ _ hms hm)) ?_ ?_
    · rintro j v σ' H3 hj ⟨z, ps, done, rfl, sf, w, he⟩
      rw [List.getElem?_map] at hj
      obtain ⟨o, eo, rfl⟩ := Option.map_eq_some_iff.mp hj
      have om := List.mem_of_getElem? eo
      have hm3 := w.bt _ _ hms hm
      have dl := nodup_le sf.nd.1 sf.nd.2
      have sl := sf.len
      refine ⟨_, .inl (SqL.of (w.bt _ _ hne hp)), rfl, flat_strs, ?_⟩
      refine ite2 (fun c1 => ?_) (fun c1 => ?_)
      · refine ⟨_, .inl (SqL.of he), rfl, flat_strs, ?_⟩
        refine ite2 (fun c2 => ?_) (fun c2 => ?_)
        · have nk : o ∉ done := by
            have c2 : (!inV (.str o) (done.map V.str)) = true := c2
            rw [inV_str] at c2
            simpa using c2
          obtain ⟨n1, a1, a2, a3⟩ := idx_str om
          obtain ⟨n2, b1, b2, b3⟩ := idx_str (pm.mem_iff.mpr km)
          refine ⟨.inl ⟨rfl, _, SqL.of hm3⟩, m, _, _, n1, _, rfl, rfl, SqL.of hm3, rfl, flat_strs, a1, a2, a3, ?_⟩
          refine ⟨.inl ⟨rfl, _, SqL.of hm3⟩, m, _, _, n2, _, rfl, rfl, SqL.of hm3, rfl, flat_strs, b1, b2, b3, ?_⟩
          refine ite2 (fun c3 => ?_) (fun c3 => ?_)
          · obtain ⟨us, hR, hp1⟩ := w.r
            have ul := pairs_len hp1
            refine ⟨.inl ⟨rfl, _, SqL.of hR⟩, (by show 2 ≤ sizeLine; decide), fun T nT => ⟨R, us, .ref T, rfl, rfl, (same_new nT) _ _ hR, line_lt (by omega), ?_⟩⟩
            obtain ⟨w, kk⟩ := wr_add w nR hd hR hp1 nT (tk o)
            have he := kk _ _ ER he
            show (fun H9 => _) (upd (upd H3 T (.tup [.str (tk o).1, .str (tk o).2])) R (.lst (us ++ [.ref T])))
            generalize upd (upd H3 T (.tup [.str (tk o).1, .str (tk o).2])) R (.lst (us ++ [.ref T])) = H4 at w he ⊢
            refine ⟨.inl ⟨rfl, _, SqL.of he⟩, Dn, done.map V.str, .str o, rfl, rfl, he, line_lt (by rw [List.length_map]; omega), ?_⟩
            refine ⟨_, ps ++ [tk o], done ++ [o], rfl, sf.take (pm.mem_iff.mp om) nk, ⟨fun b u n e => ?_, w.dr.at dEs dEc, ?_⟩, by rw [upd_same, List.map_append]; rfl⟩
            · rw [upd_ne (ne_of_none e nE0)]; exact w.bt b u n e
            · obtain ⟨us, e, hu⟩ := w.r
              exact ⟨us, by rw [upd_ne ER.symm]; exact e, pairs_bt hu (NT.lst ⟨_, he⟩) Bt.st⟩
          · exact ⟨_, ps, done, rfl, sf, w, he⟩
        · exact ⟨_, ps, done, rfl, sf, w, he⟩
      · exact ⟨_, ps, done, rfl, sf, w, he⟩
    · rintro σ' H3 ⟨z, ps, done, rfl, sf, w, he⟩
      obtain ⟨us, hR, hp1⟩ := w.r
      have ul := pairs_len hp1
      have dl := nodup_le sf.nd.1 sf.nd.2
      have sl := sf.len
      refine ⟨.inl ⟨rfl, _, SqL.of hR⟩, (by show 2 ≤ sizeLine; decide), fun T nT => ⟨R, us, .ref T, rfl, rfl, (same_new nT) _ _ hR, line_lt (by omega), ?_⟩⟩
      obtain ⟨w, kk⟩ := wr_add w nR hd hR hp1 nT (lo k)
      exact ⟨_, _, ps ++ [lo k], done, rfl, sf.look nd ek, w, kk _ _ ER he⟩
  · rintro σ' H2 ⟨y, z, ps, done, rfl, sf, w, he⟩
    rw [List.length_map] at sf
    have dl := nodup_le sf.nd.1 sf.nd.2
    have sl := sf.len
    have all : ∀ k ∈ cs, lo k ∈ ps := fun k hk => (sf.l k).mpr (by rw [List.take_length]; exact hk)
    refine q H2 R ps w.bt w.dr nR w.r ⟨sf.g, sf.sub, all, by omega, fun hc e => ?_⟩
    obtain ⟨k, hk⟩ := List.exists_mem_of_ne_nil _ hc
    have := all k hk
    rw [e] at this
    exact nomatch this
def sp__law_steps (K : PySem.W.Frag) : Sp := fun vs H Q _ => ∃ (st scr p : Addr) (cs : List Str), vs = [.ref st, .ref p] ∧ DrAt H st scr ∧ H p = some (.lst (cs.map V.str)) ∧ p ≠ st ∧ cs.Nodup ∧ cs.length ≤ 4 ∧
  ∀ (H' : Hp) (R : Addr) (ps : List Stp), Bt st H H' → DrAt H' st scr → H R = none → (∃ us, H' R = some (.lst us) ∧ PairsIn K H' us ps) → Wild cs ps → Q (.ref R) H'
theorem len__law_steps {vs : List V} {H : Hp} {Q : VK} {E : XK} (h : sp__law_steps K vs H Q E) : vs.length = 2 := by
  obtain ⟨_, _, _, _, rfl, _⟩ := h
  rfl
theorem ok__law_steps {f : Addr} {fd : FuncData} {f__law_safe_steps : Addr} {fd__law_safe_steps : FuncData} {f__law_draw : Addr} {fd__law_draw : FuncData} {f__law_wild_steps : Addr} {fd__law_wild_steps : FuncData} {f__law_mixed : Addr} {fd__law_mixed : FuncData} (F : Fun K "_law_steps" "_law_steps" s__law_steps f fd) (T : Gs K mg t_LETTERS t_LONGEST_NAME a_DEEDS a_RESERVED a_BadName a_BadPlan a_Plan) (c__law_safe_steps : Cal P w K mg base CX0 1 "_law_safe_steps" f__law_safe_steps fd__law_safe_steps ["_law_carried", "_law_rank", "_law_ahead"] (sp__law_safe_steps K)) (c__law_draw : Cal P w K mg base CX0 1 "_law_draw" f__law_draw fd__law_draw ["_law_state_here", "_law_many"] (sp__law_draw K)) (c__law_wild_steps : Cal P w K mg base CX0 3 "_law_wild_steps" f__law_wild_steps fd__law_wild_steps ["_law_state_here", "_law_carried"] (sp__law_wild_steps K)) (c__law_mixed : Cal P w K mg base CX0 2 "_law_mixed" f__law_mixed fd__law_mixed ["_law_state_here", "_law_row"] (sp__law_mixed K)) : FnOk P w K mg base CX0 4 f fd ["_law_state_here", "_law_carried"] (sp__law_steps K) := by
  refine F.ok sc__law_steps (fun vs H Q E h => len__law_steps h) (fun cdv A outer s H vs Q E hr h => ?_)
  obtain ⟨st, scr, p, cs, rfl, hd, hp, hne, nd, lc, q⟩ := h
  refine ⟨_, (pss_cons (ps_if (pt_c (eqK K hr.units) (pe_call c__law_draw.G (hr.mono (by first | decide | omega)) rfl c__law_draw.m c__law_draw.kp c__law_draw.b .nil pass0 (pa_cons (v_ 0) (pa_cons pe_int pa_nil))) pe_int) (pss_one (ps_ret (pe_call c__law_wild_steps.G (hr.mono (by first | decide | omega)) rfl c__law_wild_steps.m c__law_wild_steps.kp c__law_wild_steps.b .nil pass0 (pa_cons (v_ 0) (pa_cons (v_ 1) pa_nil))))) pss_nil) (pss_one (ps_ret (pe_call c__law_safe_steps.G (hr.mono (by first | decide | omega)) rfl c__law_safe_steps.m c__law_safe_steps.kp c__law_safe_steps.b .nil pass0 (pa_cons (v_ 1) (pa_cons (pe_call c__law_mixed.G (hr.mono (by first | decide | omega)) rfl c__law_mixed.m c__law_mixed.kp c__law_mixed.b .nil pass0 (pa_cons (v_ 0) (pa_cons (v_ 1) pa_nil))) (pa_cons (pe_call c__law_draw.G (hr.mono (by first | decide | omega)) rfl c__law_draw.m c__law_draw.kp c__law_draw.b .nil pass0 (pa_cons (v_ 0) (pa_cons pe_int pa_nil))) pa_nil))))))), ?_⟩
  refine ⟨st, scr, 2, rfl, hd, by decide, many_small (by decide) (by decide), fun r l r0 r1 d1 => ?_⟩
  have b1 : Bt st H (upd H st (.lst l)) := Bt.st
  have hp1 := b1 _ _ hne hp
  generalize upd H st (.lst l) = H1 at d1 b1 hp1 ⊢
  refine ite2 (fun c => ?_) (fun c => ?_)
  · exact ⟨st, scr, p, cs, rfl, d1, hp1, hne, nd, lc, fun H' R ps b d n => q H' R ps (b1.trans b) d (b1.free (d1.ne_new n) n)⟩
  · refine ⟨st, scr, p, cs.map V.str, rfl, d1, hp1, hne, by rw [List.length_map]; omega, fun H2 m ys b2 d2 nm hm pm => ?_⟩
    obtain ⟨ms, eys, pmS⟩ := perm_strs pm
    subst eys
    have ms' : m ≠ st := d1.ne_new nm
    refine ⟨st, scr, 4, rfl, d2, by decide, many_small (by decide) (by decide), fun ah l2 a0 a1 d3 => ?_⟩
    have b3 := (b1.trans b2).trans (Bt.st (st := st) (o := .lst l2))
    have hp3 := b3 _ _ hne hp
    have hm3 : upd H2 st (.lst l2) m = some (.lst (ms.map V.str)) := by rw [upd_ne ms']; exact hm
    generalize upd H2 st (.lst l2) = H3 at d3 b3 hp3 hm3 ⊢
    exact ⟨st, scr, p, m, ah, cs, ms, rfl, d3, hp3, hne, hm3, ms', pmS, nd, lc, fun H' R ps b d n => q H' R ps (b3.trans b) d (b3.free (d3.ne_new n) n)⟩
end
section
variable {P : Program} {w : World} {K : PySem.W.Frag} {mg : Str → Option Value} {base : Heap}
variable {t_LETTERS t_LONGEST_NAME : Tok} {a_DEEDS a_RESERVED a_BadName a_BadPlan a_Plan : Addr}
/-! ### walking through steps -/
theorem takes_app (a b : List Stp) : takes (a ++ b) = takes a ++ takes b := by
  unfold takes
  rw [List.filter_append, List.map_append]
theorem looked_app (a b : List Stp) : looked (a ++ b) = looked a ++ looked b := by
  unfold looked
  rw [List.filter_append, List.map_append]
theorem word_nodup {ps : List Stp} (w : Str) (n : ps.Nodup) : ((ps.filter fun p => decide (p.1 = w)).map (·.2)).Nodup := by
  refine List.pairwise_map.mpr (List.Pairwise.imp_of_mem (fun {a b} ha hb h e => h ?_) (n.filter _))
  have h1 := of_decide_eq_true (List.mem_filter.mp ha).2
  have h2 := of_decide_eq_true (List.mem_filter.mp hb).2
  exact Prod.ext (h1.trans h2.symm) e
theorem takes_nodup {ps : List Stp} (n : ps.Nodup) : (takes ps).Nodup := word_nodup "take" n
theorem looked_nodup {ps : List Stp} (n : ps.Nodup) : (looked ps).Nodup := word_nodup "look" n
/-- the keys in hand -/
def handOf (qs : List Stp) : List Str := (takes qs).filter fun j => decide (fr j ∉ qs)
theorem hand_mem {qs : List Stp} {j : Str} : j ∈ handOf qs ↔ tk j ∈ qs ∧ fr j ∉ qs := by
  unfold handOf
  rw [List.mem_filter, takes_mem, decide_eq_true_iff]
theorem hand_nodup {qs : List Stp} (n : qs.Nodup) : (handOf qs).Nodup := (takes_nodup n).filter _
theorem hand_len {qs : List Stp} : (handOf qs).length ≤ qs.length := Nat.le_trans (List.length_filter_le _ _) takes_len
theorem hand_other {qs : List Stp} {s : Stp} (h1 : s.1 ≠ "take") (h2 : s.1 ≠ "free") : handOf (qs ++ [s]) = handOf qs := by
  unfold handOf
  have e : takes [s] = [] := by
    unfold takes
    rw [List.filter_cons_of_neg (by simpa using h1)]
    rfl
  rw [takes_app, e, List.append_nil]
  refine List.filter_congr fun j _ => ?_
  rw [decide_eq_decide, mem_snoc]
  exact ⟨fun z h => z (.inl h), fun z h => h.elim z fun e => h2 (congrArg Prod.fst e).symm⟩
theorem hand_take {qs : List Stp} {k : Str} (n : fr k ∉ qs) : handOf (qs ++ [tk k]) = handOf qs ++ [k] := by
  unfold handOf
  have e : takes [tk k] = [k] := rfl
  have f : ∀ j, decide (fr j ∉ qs ++ [tk k]) = decide (fr j ∉ qs) := fun j => by
    rw [decide_eq_decide, mem_snoc]
    exact ⟨fun z h => z (.inl h), fun z h => h.elim z fun e => absurd e.symm (tk_fr k j)⟩
  rw [takes_app, e, List.filter_append, List.filter_cons_of_pos (by rw [f]; exact decide_eq_true n), List.filter_nil]
  exact congrArg (· ++ [k]) (List.filter_congr fun j _ => f j)
theorem hand_free {qs : List Stp} {k : Str} : handOf (qs ++ [fr k]) = (handOf qs).filter fun j => decide (j ≠ k) := by
  unfold handOf
  have e : takes [fr k] = [] := by
    unfold takes
    rw [List.filter_cons_of_neg (by show ¬ decide (("free" : Str) = "take") = true; decide +kernel)]
    rfl
  rw [takes_app, e, List.append_nil, List.filter_filter]
  refine List.filter_congr fun j _ => ?_
  rw [Bool.eq_iff_iff, Bool.and_eq_true, decide_eq_true_iff, decide_eq_true_iff, decide_eq_true_iff, mem_snoc]
  constructor
  · exact fun z => ⟨fun e => z (.inr (by rw [e])), fun h => z (.inl h)⟩
  · rintro ⟨z1, z2⟩ h
    exact h.elim z2 fun e => z1 (congrArg Prod.snd e)
theorem erase_filter : ∀ {zs : List Str} {j : Nat} {k : Str}, zs.Nodup → zs[j]? = some k → zs.eraseIdx j = zs.filter fun z => decide (z ≠ k)
  | [], j, k, _, e => by simp at e
  | z :: zs, 0, k, n, e => by
    cases e
    obtain ⟨n1, n2⟩ := List.nodup_cons.mp n
    rw [List.filter_cons_of_neg (by simp)]
    exact (List.filter_eq_self.mpr fun y hy => decide_eq_true (p := y ≠ z) fun e => n1 (by rw [← e]; exact hy)).symm
  | z :: zs, j + 1, k, n, e => by
    obtain ⟨n1, n2⟩ := List.nodup_cons.mp n
    have e : zs[j]? = some k := e
    rw [List.filter_cons_of_pos (p := fun z => decide (z ≠ k)) (decide_eq_true (p := z ≠ k) fun c => n1 (by rw [c]; exact List.mem_of_getElem? e))]
    exact congrArg (z :: ·) (erase_filter n2 e)
/-- what the walk has told by its step i -/
def lpAt (ps : List Stp) (n : Nat) : List Stp := match ps[n]? with
  | some p => if p.1 = "take" then (handOf (ps.take n)).map fun j => (j, p.2) else []
  | none => []
def lpairs (ps : List Stp) (i : Nat) : List Stp := (List.range i).flatMap (lpAt ps)
def later (ps : List Stp) (n : Nat) : List Str := looked (ps.drop (n + 1))
def lwAt (ps : List Stp) (n : Nat) : Nat := match ps[n]? with
  | some p => if p.1 = "look" then ((handOf (ps.take n)).filter fun j => decide (j ∈ later ps n)).length else 0
  | none => 0
def lwaste (ps : List Stp) : Nat → Nat
  | 0 => 0
  | i + 1 => lwaste ps i + lwAt ps i
theorem lpairs_succ (ps : List Stp) (i : Nat) : lpairs ps (i + 1) = lpairs ps i ++ lpAt ps i := by
  unfold lpairs
  rw [List.range_succ, List.flatMap_append, List.flatMap_cons, List.flatMap_nil, List.append_nil]
theorem lpairs_len {ps : List Stp} (few : ps.length < 64) (i : Nat) (hi : i ≤ ps.length) : (lpairs ps i).length ≤ 4096 := by
  have h1 : ∀ n, (lpAt ps n).length ≤ 64 := fun n => by
    unfold lpAt
    cases ps[n]? with
    | none => exact Nat.zero_le _
    | some p =>
      show (if p.1 = "take" then (handOf (ps.take n)).map (fun j => ((j, p.2) : Stp)) else []).length ≤ 64
      have := hand_len (qs := ps.take n)
      rw [List.length_take] at this
      split
      · rw [List.length_map]; omega
      · exact Nat.zero_le _
  have h2 := fm_len h1 (l := List.range i)
  unfold lpairs
  rw [List.length_range] at h2
  have : i * 64 ≤ 64 * 64 := Nat.mul_le_mul_right 64 (by omega)
  omega
/-- one step of good ones -/
theorem Good.fresh {ps : List Stp} (g : Good ps) {i : Nat} {s : Stp} (e : ps[i]? = some s) : s ∉ ps.take i := fun h => by
  obtain ⟨j, hj, ej⟩ := List.getElem_of_mem h
  have ej : (ps.take i)[j]? = some s := by rw [List.getElem?_eq_getElem hj, ej]
  rw [List.length_take] at hj
  rw [List.getElem?_take_of_lt (by omega)] at ej
  have := (List.getElem?_inj (by omega) g.nd).mp (ej.trans e.symm)
  omega
theorem Good.first {ps : List Stp} (g : Good ps) {i : Nat} {s : Stp} (e : ps[i]? = some s) : FirstAt ps s i := by
  refine ⟨e, fun j hj ej => ?_⟩
  have il := (List.getElem?_eq_some_iff.mp e).1
  have := (List.getElem?_inj (by omega) g.nd).mp (ej.trans e.symm)
  omega
theorem Good.unfreed {ps : List Stp} (g : Good ps) {i : Nat} {k : Str} (e : ps[i]? = some (tk k)) : fr k ∉ ps.take i := fun h => by
  obtain ⟨j, hj, ej⟩ := List.getElem_of_mem h
  have ej : (ps.take i)[j]? = some (fr k) := by rw [List.getElem?_eq_getElem hj, ej]
  rw [List.length_take] at hj
  rw [List.getElem?_take_of_lt (by omega)] at ej
  have := g.fo j k ej
  exact g.fresh e ((List.take_sublist_take_left (by omega)).subset this)
theorem deed_cases {d : Str} (h : d ∈ deeds) : d = "take" ∨ d = "look" ∨ d = "free" := by
  unfold deeds at h
  simpa using h
/-- the hand behind the next step -/
theorem Good.ahead_eq {ps : List Stp} (g : Good ps) {i : Nat} {k : Str} (e : ps[i]? = some (tk k)) : ahead ps k = handOf (ps.take i) := by
  unfold ahead
  rw [pos_of (g.first e)]
  have sp : takes ps = takes (ps.take i) ++ takes (ps.drop i) := by rw [← takes_app, List.take_append_drop]
  have apart : ∀ j, tk j ∈ ps.drop i → tk j ∉ ps.take i := fun j h1 h2 => by
    have n := g.nd
    rw [← List.take_append_drop i ps, List.nodup_append] at n
    exact n.2.2 _ h2 _ h1 rfl
  rw [sp, List.filter_append]
  have z : (takes (ps.drop i)).filter (fun j => heldAt ps j i) = [] := List.filter_eq_nil_iff.mpr fun j hj h => apart j (takes_mem.mp hj) (Bool.and_eq_true_iff.mp h |>.1 |> of_decide_eq_true)
  rw [z, List.append_nil]
  unfold handOf
  refine List.filter_congr fun j hj => ?_
  unfold heldAt
  rw [decide_eq_true (takes_mem.mp hj), Bool.true_and]
theorem lpairs_eq {ps : List Stp} (g : Good ps) : ∀ i, i ≤ ps.length → lpairs ps i = (takes (ps.take i)).flatMap fun k => (ahead ps k).map fun j => (j, k)
  | 0, _ => rfl
  | i + 1, hi => by
    obtain ⟨p, e⟩ : ∃ p, ps[i]? = some p := ⟨_, List.getElem?_eq_getElem hi⟩
    obtain ⟨d, k⟩ := p
    rw [lpairs_succ, lpairs_eq g i (by omega), take_snoc e, takes_app, List.flatMap_append]
    refine congrArg (_ ++ ·) ?_
    unfold lpAt
    rw [e]
    show (if d = "take" then (handOf (ps.take i)).map (fun j => ((j, k) : Stp)) else []) = _
    by_cases hd : d = "take"
    · subst hd
      rw [if_pos rfl, ← g.ahead_eq e]
      show _ = List.flatMap _ [k]
      rw [List.flatMap_cons, List.flatMap_nil, List.append_nil]
    · rw [if_neg hd]
      have : takes [(d, k)] = [] := by
        unfold takes
        rw [List.filter_cons_of_neg (by simpa using hd)]
        rfl
      rw [this]
      rfl
theorem walk_pairs {ps : List Stp} (g : Good ps) : lpairs ps ps.length = pairsOf ps := by
  rw [lpairs_eq g _ (Nat.le_refl _), List.take_length]
  rfl
theorem meet_len {a b : List Str} (ha : a.Nodup) (hb : b.Nodup) : (a.filter fun j => decide (j ∈ b)).length = (b.filter fun j => decide (j ∈ a)).length := by
  refine List.Perm.length_eq ((List.perm_ext_iff_of_nodup (ha.filter _) (hb.filter _)).mpr fun x => ?_)
  rw [List.mem_filter, List.mem_filter, decide_eq_true_iff, decide_eq_true_iff]
  exact And.comm
theorem waste_eq {ps : List Stp} (g : Good ps) : ∀ i, i ≤ ps.length → lwaste ps i = (((List.range (looked (ps.take i)).length).flatMap (earlAt (looked ps))).filter (wastes ps)).length
  | 0, _ => rfl
  | i + 1, hi => by
    obtain ⟨p, e⟩ : ∃ p, ps[i]? = some p := ⟨_, List.getElem?_eq_getElem hi⟩
    obtain ⟨d, k⟩ := p
    show lwaste ps i + lwAt ps i = _
    rw [waste_eq g i (by omega), take_snoc e, looked_app]
    unfold lwAt
    rw [e]
    show _ + (if d = "look" then ((handOf (ps.take i)).filter fun j => decide (j ∈ later ps i)).length else 0) = _
    by_cases hd : d = "look"
    · subst hd
      have one : looked [(("look" : Str), k)] = [k] := rfl
      rw [if_pos rfl, one, List.length_append, List.length_singleton, List.range_succ, List.flatMap_append, List.filter_append, List.length_append]
      refine congrArg (_ + ·) ?_
      have e2 := List.getElem?_eq_some_iff.mp e
      have sp : looked ps = looked (ps.take i) ++ k :: later ps i := by
        have z : ps = ps.take i ++ (lo k :: ps.drop (i + 1)) := by
          obtain ⟨h1, h2⟩ := e2
          rw [show lo k = ps[i] from h2.symm, ← List.drop_eq_getElem_cons, List.take_append_drop]
        have y := congrArg looked z
        rw [looked_app] at y
        exact y
      have at_ : (looked ps)[(looked (ps.take i)).length]? = some k := by
        rw [sp, List.getElem?_append_right (Nat.le_refl _), Nat.sub_self]
        rfl
      have dr : (looked ps).drop ((looked (ps.take i)).length + 1) = later ps i := by
        rw [sp, List.drop_append, List.drop_of_length_le (by omega), List.nil_append, Nat.add_sub_cancel_left]
        rfl
      rw [List.flatMap_cons, List.flatMap_nil, List.append_nil, earl_at at_, dr, List.filter_map, List.length_map, meet_len (b := later ps i) (hand_nodup (g.nd.sublist (List.take_sublist _ _))) (looked_nodup (g.nd.sublist (List.drop_sublist _ _)))]
      refine congrArg List.length (List.filter_congr fun l _ => ?_)
      show decide (l ∈ handOf (ps.take i)) = heldAt ps l (pos ps (lo k))
      rw [pos_of (g.first e), Bool.eq_iff_iff, decide_eq_true_iff, hand_mem]
      unfold heldAt
      rw [Bool.and_eq_true, decide_eq_true_iff, decide_eq_true_iff]
    · rw [if_neg hd]
      have : looked [(d, k)] = [] := by
        unfold looked
        rw [List.filter_cons_of_neg (by simpa using hd)]
        rfl
      rw [this, List.append_nil, Nat.add_zero]
theorem walk_waste {ps : List Stp} (g : Good ps) : lwaste ps ps.length = wasteOf ps := by
  rw [waste_eq g _ (Nat.le_refl _), List.take_length]
  rfl
end
section
variable {P : Program} {w : World} {K : PySem.W.Frag} {mg : Str → Option Value} {base : Heap}
variable {t_LETTERS t_LONGEST_NAME : Tok} {a_DEEDS a_RESERVED a_BadName a_BadPlan a_Plan : Addr}
/-! ### the law's walk -/
def sp__law_walk (K : PySem.W.Frag) : Sp := fun vs H Q _ => ∃ (R : Addr) (ps : List Stp), vs = [.ref R] ∧ StL K H R ps ∧ Good ps ∧ ps.length < 64 ∧
  ∀ H' t r us, Same H H' → H' t = some (.tup [.ref r, .int (lwaste ps ps.length : Int)]) → H' r = some (.lst us) → PairsIn K H' us (lpairs ps ps.length) → Q (.ref t) H'
theorem len__law_walk {vs : List V} {H : Hp} {Q : VK} {E : XK} (h : sp__law_walk K vs H Q E) : vs.length = 1 := by
  obtain ⟨_, _, rfl, _⟩ := h
  rfl
theorem add_new {K : PySem.W.Frag} {H H1 : Hp} {R T : Addr} {acc : List Stp} {us : List V} (s : Same H H1) (nR : H R = none) (hR : H1 R = some (.lst us)) (hp : PairsIn K H1 us acc) (nT : H1 T = none) (q : Stp) :
    Same H (upd (upd H1 T (.tup [.str q.1, .str q.2])) R (.lst (us ++ [.ref T]))) ∧ PairsIn K (upd (upd H1 T (.tup [.str q.1, .str q.2])) R (.lst (us ++ [.ref T]))) (us ++ [.ref T]) (acc ++ [q]) ∧ ∀ b o, b ≠ R → H1 b = some o → (upd (upd H1 T (.tup [.str q.1, .str q.2])) R (.lst (us ++ [.ref T]))) b = some o := by
  have keep : ∀ b o, b ≠ R → H1 b = some o → (upd (upd H1 T (.tup [.str q.1, .str q.2])) R (.lst (us ++ [.ref T]))) b = some o := fun b o n e => by rw [upd_ne n]; exact same_new nT _ _ e
  have hs := same_new (o := .tup [.str q.1, .str q.2]) nT
  refine ⟨fun b o e => keep b o (ne_of_none e nR) (s b o e), ?_, keep⟩
  refine pairs_snoc (pairs_bt (pairs_same hp hs) (NT.lst ⟨_, hs _ _ hR⟩) Bt.st) ⟨T, rfl, SqT.of ?_⟩
  rw [upd_ne (ne_of_none hR nT).symm, upd_same]
theorem ok__law_walk {f : Addr} {fd : FuncData} (F : Fun K "_law_walk" "_law_walk" s__law_walk f fd) (T : Gs K mg t_LETTERS t_LONGEST_NAME a_DEEDS a_RESERVED a_BadName a_BadPlan a_Plan) : FnOk P w K mg base CX0 1 f fd ["_law_steps_here"] (sp__law_walk K) := by
  refine F.ok sc__law_walk (fun vs H Q E h => len__law_walk h) (fun cdv A outer s H vs Q E hr h => ?_)
  obtain ⟨R0, ps, rfl, ⟨vs, h0, hp⟩, g, few, q⟩ := h
  refine ⟨_, (pss_cons (ps_set (i := 1) sc__law_walk.nd rfl (.inl rfl) (pe_lst pa_nil)) (pss_cons (ps_set (i := 2) sc__law_walk.nd rfl (.inl rfl) (pe_lst pa_nil)) (pss_cons (ps_set (i := 3) sc__law_walk.nd rfl (.inl rfl) pe_int) (pss_cons (ps_for PassesOwn.never rfl (pi_range1 rfl T.z_range (pa_cons (pe_callB (lenK K) (by rfl) T.z_len PySem.boot_len (pa_cons (v_ 0) pa_nil)) pa_nil)) (pg_name (i := 4) sc__law_walk.nd rfl (.inl rfl)) (pss_cons (ps_asg (e_x K (v_ 0) (v_ 4)) (pg_tup (by rfl) (pgs_cons (pg_name (i := 5) sc__law_walk.nd rfl (.inl rfl)) (pgs_cons (pg_name (i := 6) sc__law_walk.nd rfl (.inl rfl)) pgs_nil)))) (pss_one (ps_if (pt_c (eqK K hr.units) (v_ 5) pe_str) (pss_cons (ps_for PassesOwn.never rfl (pi_list (v_ 1)) (pg_name (i := 7) sc__law_walk.nd rfl (.inl rfl)) (pss_one (ps_expr (pe_bm PySem.F.plainAttrs_list PySem.F.slot_list_append PySem.F.type_list_append mt_append (v_ 2) (pa_cons (pe_tup (pa_cons (v_ 7) (pa_cons (v_ 6) pa_nil))) pa_nil))))) (pss_one (ps_expr (pe_bm PySem.F.plainAttrs_list PySem.F.slot_list_append PySem.F.type_list_append mt_append (v_ 1) (pa_cons (v_ 6) pa_nil))))) (pss_one (ps_if (pt_c (eqK K hr.units) (v_ 5) pe_str) (pss_one (ps_expr (pe_bm PySem.F.plainAttrs_list PySem.F.slot_list_remove PySem.F.type_list_remove mt_removeS (v_ 1) (pa_cons (v_ 6) pa_nil)))) (pss_cons (ps_set (i := 8) sc__law_walk.nd rfl (.inr rfl) (pe_lc (own := [("_law_step", 9)]) (g := gName 9) (by rfl) sc__law_walk.nd (pi_list (pe_slice (slK K) (v_ 0) (po_some (pe_op (addK K) (v_ 4) pe_int)) po_none)) (blkOk_by (N := ["_law_steps_here", "_law_hand", "_law_pairs", "_law_waste", "_law_k", "_law_deed", "_law_key", "_law_first", "_law_later", "_law_step", "_law_one"]) (sc := defScope s__law_walk) (by decide +kernel)) (fun _ _ _ _ _ => pg_name (i := 9) sc__law_walk.nd rfl (Or.inl rfl)) (fun _ _ _ _ _ => pts_one (pt_c (eqK K hr.units) (e_x K (v_ 9) pe_int) pe_str)) (fun _ _ _ _ _ => (e_x K (v_ 9) pe_int)))) (pss_one (ps_set (i := 3) sc__law_walk.nd rfl (.inl rfl) (pe_op (addK K) (v_ 3) (pe_callB (lenK K) (by rfl) T.z_len PySem.boot_len (pa_cons (pe_lc (own := [("_law_one", 10)]) (g := gName 10) (by rfl) sc__law_walk.nd (pi_list (v_ 1)) (blkOk_by (N := ["_law_steps_here", "_law_hand", "_law_pairs", "_law_waste", "_law_k", "_law_deed", "_law_key", "_law_first", "_law_later", "_law_step", "_law_one"]) (sc := defScope s__law_walk) (by decide +kernel)) (fun _ _ _ _ _ => pg_name (i := 10) sc__law_walk.nd rfl (Or.inl rfl)) (fun _ _ _ _ _ => pts_one (pt_c (inK K) (v_ 10) (v_ 8))) (fun _ _ _ _ _ => (v_ 10))) pa_nil)))))))))))) (pss_one (ps_ret (pe_tup (pa_cons (v_ 2) (pa_cons (v_ 3) pa_nil))))))))), ?_⟩
  have vl := pairs_len hp
  refine ⟨Nat.zero_le _, fun Hd nH => ?_⟩
  refine ⟨Nat.zero_le _, fun R nR => ?_⟩
  have HR : Hd ≠ R := (new_ne nR).symm
  have nR0 := free_new nR
  have s1 := (same_new (o := .lst []) nH).trans (same_new (o := .lst []) nR)
  have e1 : (upd (upd H Hd (.lst [])) R (.lst [])) Hd = some (.lst []) := by rw [upd_ne HR, upd_same]
  have e2 : (upd (upd H Hd (.lst [])) R (.lst [])) R = some (.lst []) := upd_same
  generalize upd (upd H Hd (.lst [])) R (.lst []) = H1 at s1 e1 e2 ⊢
  refine .inl ⟨_, .inl (s1.seq h0), vs.length, rfl, by omega, by omega, ?_⟩
  refine for_range (lo := 0) (n := vs.length) (fun i σ' H' => ∃ (y4 y5 y6 y7 y8 : Option V) (us : List V), σ' = [some (.ref R0), some (.ref Hd), some (.ref R), some (.int (lwaste ps i : Int)), y4, y5, y6, y7, y8, none, none] ∧ Same H H' ∧ H' Hd = some (.lst ((handOf (ps.take i)).map V.str)) ∧ H' R = some (.lst us) ∧ PairsIn K H' us (lpairs ps i)) ⟨_, _, _, _, _, [], rfl, s1, e1, e2, .nil⟩ ?_ ?_
  · rintro i σ' H2 hi ⟨y4, y5, y6, y7, y8, us, rfl, s2, eH, eR, hus⟩
    obtain ⟨⟨d, k⟩, ep⟩ : ∃ p, ps[i]? = some p := ⟨_, List.getElem?_eq_getElem (by omega)⟩
    obtain ⟨v, ev, r, rfl, hr⟩ := pairs_to (pairs_same hp s2) ep
    have ev2 : atI vs (0 + (i : Int)) = some (.ref r) := by rw [Int.zero_add]; exact atI_nat ev
    have ul := pairs_len hus
    have ll := lpairs_len few i (by omega)
    have tks := take_snoc ep
    have hl : (handOf (ps.take i)).length ≤ 64 := Nat.le_trans hand_len (by rw [List.length_take]; omega)
    have lp : lpairs ps (i + 1) = lpairs ps i ++ (if d = "take" then (handOf (ps.take i)).map (fun j => ((j, k) : Stp)) else []) := by
      rw [lpairs_succ]
      unfold lpAt
      rw [ep]
    have lw : lwaste ps (i + 1) = lwaste ps i + (if d = "look" then ((handOf (ps.take i)).filter fun j => decide (j ∈ later ps i)).length else 0) := by
      show lwaste ps i + lwAt ps i = _
      unfold lwAt
      rw [ep]
    refine ⟨vs, .inl (s2.seq h0), _, ev2, r, _, rfl, hr, rfl, _, _, rfl, _, _, rfl, rfl, ?_⟩
    refine ite2 (fun c => ?_) (fun c => ?_)
    · have c : d = "take" := of_decide_eq_true c
      subst c
      rw [if_pos rfl] at lp
      rw [if_neg (by decide +kernel), Nat.add_zero] at lw
      refine ⟨Hd, rfl, ⟨_, SqL.of eH⟩, ?_⟩
      refine for_list (K := K) (a := Hd) (xs := (handOf (ps.take i)).map V.str) (fun j σ' H' => ∃ (y7 : Option V) (us : List V), σ' = [some (.ref R0), some (.ref Hd), some (.ref R), some (.int (lwaste ps i : Int)), some (.int (0 + (i : Int))), some (.str "take"), some (.str k), y7, y8, none, none] ∧ Same H H' ∧ H' Hd = some (.lst ((handOf (ps.take i)).map V.str)) ∧ H' R = some (.lst us) ∧ PairsIn K H' us (lpairs ps i ++ ((handOf (ps.take i)).take j).map fun j => ((j, k) : Stp))) ⟨_, us, rfl, s2, eH, eR, by rw [List.take_zero, List.map_nil, List.append_nil]; exact hus⟩ (fun j σ' H' _ h => by obtain ⟨_, _, _, _, h, _⟩ := h; exact SqL.of h) ?_ ?_
      · rintro j v σ' H3 hj ⟨y7, us, rfl, s3, eH, eR, hus⟩
        rw [List.getElem?_map] at hj
        obtain ⟨f, ef, rfl⟩ := Option.map_eq_some_iff.mp hj
        have ul := pairs_len hus
        rw [List.length_append, List.length_map, List.length_take] at ul
        refine ⟨.inl ⟨rfl, _, SqL.of eR⟩, (by show 2 ≤ sizeLine; decide), fun T nT => ⟨R, us, .ref T, rfl, rfl, (same_new nT) _ _ eR, line_lt (by omega), ?_⟩⟩
        obtain ⟨s4, hu4, k4⟩ := add_new s3 nR0 eR hus nT (f, k)
        refine ⟨_, _, rfl, s4, k4 _ _ HR eH, upd_same, ?_⟩
        rw [take_snoc ef, List.map_append, ← List.append_assoc]
        exact hu4
      · rintro σ' H3 ⟨y7, us, rfl, s3, eH, eR, hus⟩
        rw [List.length_map, List.take_length, ← lp] at hus
        refine ⟨.inl ⟨rfl, _, SqL.of eH⟩, Hd, _, .str k, rfl, rfl, eH, line_lt (by rw [List.length_map]; omega), ?_⟩
        have nt := NT.lst (H := H3) (st := Hd) ⟨_, eH⟩
        refine ⟨_, _, _, _, _, us, by rw [lw]; rfl, fun b o e => by rw [upd_ne (ne_of_none e nH)]; exact s3 _ _ e, ?_, by rw [upd_ne HR.symm]; exact eR, pairs_bt hus nt Bt.st⟩
        rw [upd_same, tks, hand_take (g.unfreed ep), List.map_append]
        rfl
    · have c : d ≠ "take" := fun h => c (decide_eq_true h)
      rw [if_neg c, List.append_nil] at lp
      refine ite2 (fun c2 => ?_) (fun c2 => ?_)
      · have c2 : d = "free" := of_decide_eq_true c2
        subst c2
        rw [if_neg (by decide +kernel), Nat.add_zero] at lw
        have inh : k ∈ handOf (ps.take i) := hand_mem.mpr ⟨g.fo i k ep, g.fresh ep⟩
        have hn := hand_nodup (g.nd.sublist (List.take_sublist i ps))
        obtain ⟨j, ej, nj⟩ : ∃ j : Nat, (handOf (ps.take i))[j]? = some k ∧ ∀ m : Nat, m < j → (handOf (ps.take i))[m]? ≠ some k := first_str inh
        refine ⟨.inl ⟨rfl, _, SqL.of eH⟩, Hd, _, k, j, rfl, rfl, eH, ej, nj, ?_⟩
        have nt := NT.lst (H := H2) (st := Hd) ⟨_, eH⟩
        refine ⟨_, _, _, _, _, us, by rw [lw]; rfl, fun b o e => by rw [upd_ne (ne_of_none e nH)]; exact s2 _ _ e, ?_, by rw [upd_ne HR.symm]; exact eR, by rw [lp]; exact pairs_bt hus nt Bt.st⟩
        rw [upd_same, tks, erase_filter hn ej]
        show _ = some (HO.lst ((handOf (ps.take i ++ [fr k])).map V.str))
        rw [hand_free]
      · have c2 : d ≠ "free" := fun h => c2 (decide_eq_true h)
        have c3 : d = "look" := by
          rcases deed_cases (g.dd _ (List.mem_of_getElem? ep)) with h | h | h
          · exact absurd h c
          · exact h
          · exact absurd h c2
        subst c3
        rw [if_pos rfl] at lw
        refine ⟨0 + (i : Int) + 1, rfl, .inl ⟨_, s2.seq h0, fun u nu => ?_⟩⟩
        rw [cutV_drop _ (by omega), show (0 + (i : Int) + 1).toNat = i + 1 by omega]
        have s3 := same_new (o := .lst (vs.drop (i + 1))) nu
        have hu : (upd H2 u (.lst (vs.drop (i + 1)))) u = some (.lst (vs.drop (i + 1))) := upd_same
        have s23 := s2.trans s3
        have eH := s3 _ _ eH
        have eR := s3 _ _ eR
        have hus := pairs_same hus s3
        generalize upd H2 u (.lst (vs.drop (i + 1))) = H3 at s3 hu s23 eH eR hus ⊢
        refine ⟨u, rfl, ⟨_, SqL.of hu⟩, fun D nD => ?_⟩
        refine lc_it (walk_list (xs := vs.drop (i + 1))) (PvP H3 D (keepF (ps.drop (i + 1)) (fun p => decide (p.1 = ("look" : Str))) fun p => .str p.2)) (pvp_start nD rfl) (fun _ _ _ h => SqL.of (h.1 _ _ hu)) ?_ ?_
        · rintro j v H4 H5 hj pv ⟨rfl, hv⟩
          rw [List.getElem?_drop] at hv
          obtain ⟨⟨d2, k2⟩, e2, r2, rfl, hr2⟩ := pairs_at (pairs_same hp (s23.trans pv.1)) hv
          have e3 : (ps.drop (i + 1))[j]? = some (d2, k2) := by rw [List.getElem?_drop]; exact e2
          refine ⟨rfl, ?_⟩
          refine ⟨_, .inr hr2, .str d2, rfl, ?_⟩
          refine ite2 (fun c => ?_) (fun c => ?_)
          · exact ⟨_, .inr hr2, .str k2, rfl, pvp_put nD pv (Same.refl _) (keepF_put e3 c) (Nat.lt_of_le_of_lt keepF_len (by rw [List.length_drop]; omega))⟩
          · exact pvp_skip pv (Same.refl _) (keepF_skip e3 c)
        · rintro H4 ⟨s4, hD⟩
          rw [keepF_all (by rw [List.length_drop, List.length_drop, vl])] at hD
          have hD : H4 D = some (.lst ((later ps i).map V.str)) := by
            rw [hD]
            unfold later looked
            rw [List.map_map]
            rfl
          have s24 := s23.trans s4
          have eH := s4 _ _ eH
          refine ⟨Hd, rfl, ⟨_, SqL.of eH⟩, fun D2 nD2 => ?_⟩
          refine lc_it (walk_list (xs := (handOf (ps.take i)).map V.str)) (PvP H4 D2 (keepF (handOf (ps.take i)) (fun j => decide (j ∈ later ps i)) V.str)) (pvp_start nD2 rfl) (fun _ _ _ h => SqL.of (h.1 _ _ eH)) ?_ ?_
          · rintro j v H5 H6 hj pv ⟨rfl, hv⟩
            rw [List.getElem?_map] at hv
            obtain ⟨z, ez, rfl⟩ := Option.map_eq_some_iff.mp hv
            refine ⟨rfl, ?_⟩
            refine ⟨_, .inl (SqL.of (pv.1 _ _ hD)), rfl, flat_strs, ?_⟩
            refine ite2 (fun c => ?_) (fun c => ?_)
            · exact pvp_put nD2 pv (Same.refl _) (keepF_put ez (inV_str.symm.trans c)) (Nat.lt_of_le_of_lt keepF_len (by omega))
            · exact pvp_skip pv (Same.refl _) (keepF_skip ez fun h => c (inV_str.trans h))
          · rintro H5 ⟨s5, hD2⟩
            rw [keepF_all (by rw [List.length_map])] at hD2
            refine .inl ⟨_, .inl (SqL.of hD2), ?_⟩
            rw [List.length_map]
            refine ⟨_, _, _, _, _, us, by rw [lw]; rfl, s24.trans s5, ?_, s5 _ _ (s4 _ _ eR), by rw [lp]; exact pairs_same hus (s4.trans s5)⟩
            rw [tks, hand_other c c2]
            exact s5 _ _ eH
  · rintro σ' H2 ⟨y4, y5, y6, y7, y8, us, rfl, s2, eH, eR, hus⟩
    refine ⟨(by show 2 ≤ sizeLine; decide), fun t nt => ?_⟩
    have s3 := same_new (o := .tup [.ref R, .int (lwaste ps vs.length : Int)]) nt
    rw [vl] at hus
    exact q _ t R us (s2.trans s3) (by rw [upd_same, vl]) (s3 _ _ eR) (pairs_same hus s3)
end
section
variable {P : Program} {w : World} {K : PySem.W.Frag} {mg : Str → Option Value} {base : Heap}
variable {t_LETTERS t_LONGEST_NAME : Tok} {a_DEEDS a_RESERVED a_BadName a_BadPlan a_Plan : Addr}
def spLaw (K : PySem.W.Frag) : Sp := fun vs H Q _ => ∃ (a : Addr) (ns : List Int), vs = [.ref a] ∧ SqL K H a (ns.map V.int) ∧ ns.length ≤ 63 ∧ ∀ H', Q (.bl true) H'
abbrev sp_law := spLaw
theorem len_law {vs : List V} {H : Hp} {Q : VK} {E : XK} (h : sp_law K vs H Q E) : vs.length = 1 := by
  obtain ⟨_, _, rfl, _⟩ := h
  rfl
theorem same_flat {H : Hp} {t u : Addr} {xs : List V} {n : Nat} (h1 : SqT K H t xs) (h2 : SqT K H u xs) (h4 : xs.length ≤ 1000) (hf : ∀ v ∈ xs, Fl v) : SameV K H (n + 2) (.ref t) (.ref u) :=
  same_tupN h1 h2 rfl h4 fun i a b ha hb => by
    rw [ha] at hb
    cases hb
    exact same_fl (hf a (List.mem_of_getElem? ha))
theorem same_pair {H : Hp} {x y : V} {p : Stp} {n : Nat} (h1 : PairAt K H x p) (h2 : PairAt K H y p) : SameV K H (n + 2) x y := by
  obtain ⟨t, rfl, h1⟩ := h1
  obtain ⟨u, rfl, h2⟩ := h2
  refine same_flat h1 h2 (by show 2 ≤ 1000; decide) fun v hv => ?_
  simp only [List.mem_cons, List.not_mem_nil, or_false] at hv
  rcases hv with rfl | rfl
  · exact .inr (.inl ⟨_, rfl⟩)
  · exact .inr (.inl ⟨_, rfl⟩)
theorem same_pairs {H : Hp} {t u : Addr} {xs ys : List V} {ps : List Stp} {n : Nat} (h1 : H t = some (.lst xs)) (h2 : H u = some (.lst ys)) (p1 : PairsIn K H xs ps) (p2 : PairsIn K H ys ps) (hl : ps.length ≤ 1000) : SameV K H (n + 3) (.ref t) (.ref u) := by
  have l1 := pairs_len p1
  have l2 := pairs_len p2
  refine .inr (.inr (.inl ⟨t, u, xs, ys, rfl, rfl, h1, h2, by omega, by omega, fun i a b ha hb => ?_⟩))
  obtain ⟨p, e1, a1⟩ := pairs_at p1 ha
  obtain ⟨q, e2, a2⟩ := pairs_at p2 hb
  rw [e1] at e2
  cases e2
  exact same_pair a1 a2
theorem take_map {zs : List Str} (k : Nat) : (zs.map V.str).take k = (zs.take k).map V.str := (List.map_take ..).symm
theorem four_nat {r : Int} (r0 : 0 ≤ r) (r1 : r < 4) : 1 ≤ (4 - r).toNat ∧ (4 - r).toNat ≤ 4 ∧ 0 ≤ 4 - r := by omega
/-- a plan and its row of steps -/
def El1 (K : PySem.W.Frag) (H : Hp) (st Rw Pl x R : Addr) : Prop := R ≠ st ∧ R ≠ Rw ∧ R ≠ Pl ∧ ∃ (ps : List Stp) (lk kp cs : List Str), PlAt K H x ps lk kp ∧ (∃ us, H R = some (.lst us) ∧ PairsIn K H us ps) ∧ Wild cs ps ∧ cs.length ≤ 4
theorem El1.same {K : PySem.W.Frag} {H H' : Hp} {st Rw Pl x R : Addr} (h : El1 K H st Rw Pl x R) (s : Same H H') : El1 K H' st Rw Pl x R := by
  obtain ⟨n1, n2, n3, ps, lk, kp, cs, h1, ⟨us, e, h2⟩, h3⟩ := h
  exact ⟨n1, n2, n3, ps, lk, kp, cs, h1.same s, ⟨us, s _ _ e, pairs_same h2 s⟩, h3⟩
theorem El1.bt {K : PySem.W.Frag} {H H' : Hp} {st Rw Pl x R q : Addr} (h : El1 K H st Rw Pl x R) (hq : q = st ∨ q = Rw ∨ q = Pl) (hs : ∃ l, H q = some (.lst l)) (s : Bt q H H') : El1 K H' st Rw Pl x R := by
  obtain ⟨n1, n2, n3, ps, lk, kp, cs, h1, h2, h3⟩ := h
  have n : R ≠ q := by
    rcases hq with e | e | e <;> rw [e] <;> assumption
  exact ⟨n1, n2, n3, ps, lk, kp, cs, h1.bt hs s, stL_bt h2 n hs s, h3⟩
def Els (K : PySem.W.Frag) (H : Hp) (st Rw Pl : Addr) (rs xs : List Addr) : Prop := ∀ (j : Nat) (x R : Addr), xs[j]? = some x → rs[j]? = some R → El1 K H st Rw Pl x R
theorem pairsOf_len {ps : List Stp} {cs : List Str} (w : Wild cs ps) (l : cs.length ≤ 4) : (pairsOf ps).length ≤ 16 := by
  have tn := takes_nodup w.g.nd
  have tl : (takes ps).length ≤ 4 := Nat.le_trans (nodup_le tn fun k hk => w.sub _ (takes_mem.mp hk)) l
  have h1 : ∀ k, ((ahead ps k).map fun j => ((j, k) : Stp)).length ≤ 4 := fun k => by
    rw [List.length_map]
    exact Nat.le_trans (List.length_filter_le _ _) tl
  have h2 := fm_len h1 (l := takes ps)
  unfold pairsOf
  omega
theorem ok_law {f : Addr} {fd : FuncData} {f__law_state : Addr} {fd__law_state : FuncData} {f__law_names : Addr} {fd__law_names : FuncData} {f__law_steps : Addr} {fd__law_steps : FuncData} {f__law_walk : Addr} {fd__law_walk : FuncData} {f__law_mixed : Addr} {fd__law_mixed : FuncData} {f__law_same : Addr} {fd__law_same : FuncData} {f__law_draw : Addr} {fd__law_draw : FuncData} {f__law_some : Addr} {fd__law_some : FuncData} {f_Plan_pairs : Addr} {fd_Plan_pairs : FuncData} {f_Plan___init__ : Addr} {fd_Plan___init__ : FuncData} {e1_Plan___init__ e2_Plan___init__ : Addr} {f_Plan_waste : Addr} {fd_Plan_waste : FuncData} {p_Plan_waste : Addr} (F : Fun K "law" "law" s_law f fd) (T : Gs K mg t_LETTERS t_LONGEST_NAME a_DEEDS a_RESERVED a_BadName a_BadPlan a_Plan) (c__law_state : Cal P w K mg base CX0 1 "_law_state" f__law_state fd__law_state ["_law_script"] (sp__law_state K)) (c__law_names : Cal P w K mg base CX0 2 "_law_names" f__law_names fd__law_names ["_law_state_here", "_law_many"] (sp__law_names K)) (c__law_steps : Cal P w K mg base CX0 4 "_law_steps" f__law_steps fd__law_steps ["_law_state_here", "_law_carried"] (sp__law_steps K)) (c__law_walk : Cal P w K mg base CX0 1 "_law_walk" f__law_walk fd__law_walk ["_law_steps_here"] (sp__law_walk K)) (c__law_mixed : Cal P w K mg base CX0 2 "_law_mixed" f__law_mixed fd__law_mixed ["_law_state_here", "_law_row"] (sp__law_mixed K)) (c__law_same : Cal P w K mg base CX0 26 "_law_same" f__law_same fd__law_same ["_law_actual", "_law_due"] (sp__law_same K)) (c__law_draw : Cal P w K mg base CX0 1 "_law_draw" f__law_draw fd__law_draw ["_law_state_here", "_law_many"] (sp__law_draw K)) (c__law_some : Cal P w K mg base CX0 2 "_law_some" f__law_some fd__law_some ["_law_state_here", "_law_row", "_law_share"] (sp__law_some K)) (c_Plan_pairs : CalM P w K mg base CX0 3 a_Plan "pairs" f_Plan_pairs fd_Plan_pairs ["self"] (sp_Plan_pairs K)) (c_Plan___init__ : CalK P w K mg base (L2.CX P w) 4 "Plan" a_Plan f_Plan___init__ fd_Plan___init__ ["self", "steps", "locked", "kept"] 2 "locked" "kept" e1_Plan___init__ e2_Plan___init__ (sp_Plan___init__ K)) (c_Plan_waste : CalP P w K mg base CX0 3 a_Plan p_Plan_waste "waste" f_Plan_waste fd_Plan_waste ["self"] (sp_Plan_waste K)) : FnOk P w K mg base CX0 60 f fd ["_law_script"] (sp_law K) := by
  refine F.ok sc_law (fun vs H Q E h => len_law h) (fun cdv A outer s H vs Q E hr h => ?_)
  obtain ⟨a, ns, rfl, hS, hl, q⟩ := h
  refine ⟨_, (pss_cons (ps_set (i := 1) sc_law.nd rfl (.inl rfl) (pe_call c__law_state.G (hr.mono (by first | decide | omega)) rfl c__law_state.m c__law_state.kp c__law_state.b .nil pass0 (pa_cons (v_ 0) pa_nil))) (pss_cons (ps_set (i := 2) sc_law.nd rfl (.inl rfl) (pe_call c__law_names.G (hr.mono (by first | decide | omega)) rfl c__law_names.m c__law_names.kp c__law_names.b .nil pass0 (pa_cons (v_ 1) (pa_cons pe_int pa_nil)))) (pss_cons (ps_set (i := 3) sc_law.nd rfl (.inl rfl) (pe_lst pa_nil)) (pss_cons (ps_set (i := 4) sc_law.nd rfl (.inl rfl) (pe_lst pa_nil)) (pss_cons (ps_for PassesOwn.never rfl (pi_range1 rfl T.z_range (pa_cons pe_int pa_nil)) (pg_name (i := 5) sc_law.nd rfl (.inl rfl)) (pss_cons (ps_set (i := 6) sc_law.nd rfl (.inl rfl) (pe_slice (slK K) (pe_call c__law_mixed.G (hr.mono (by first | decide | omega)) rfl c__law_mixed.m c__law_mixed.kp c__law_mixed.b .nil pass0 (pa_cons (v_ 1) (pa_cons (v_ 2) pa_nil))) po_none (po_some (pe_op op_subM pe_int (pe_call c__law_draw.G (hr.mono (by first | decide | omega)) rfl c__law_draw.m c__law_draw.kp c__law_draw.b .nil pass0 (pa_cons (v_ 1) (pa_cons pe_int pa_nil))))))) (pss_cons (ps_set (i := 7) sc_law.nd rfl (.inl rfl) (pe_call c__law_steps.G (hr.mono (by first | decide | omega)) rfl c__law_steps.m c__law_steps.kp c__law_steps.b .nil pass0 (pa_cons (v_ 1) (pa_cons (v_ 6) pa_nil)))) (pss_cons (ps_expr (pe_bm PySem.F.plainAttrs_list PySem.F.slot_list_append PySem.F.type_list_append mt_append (v_ 3) (pa_cons (v_ 7) pa_nil))) (pss_one (ps_expr (pe_bm PySem.F.plainAttrs_list PySem.F.slot_list_append PySem.F.type_list_append mt_append (v_ 4) (pa_cons (pe_mkTwo c_Plan___init__ (hr.mono (by first | decide | omega)) rfl passL (pa_cons (pe_callTy (listK K) (by rfl) T.z_list (by decide +kernel) (pa_cons (v_ 7) pa_nil)) pa_nil) (pk_cons (pe_call c__law_some.G (hr.mono (by first | decide | omega)) rfl c__law_some.m c__law_some.kp c__law_some.b .nil pass0 (pa_cons (v_ 1) (pa_cons (v_ 6) (pa_cons pe_int pa_nil)))) pk_nil)) pa_nil)))))))) (pss_cons (ps_for PassesOwn.never rfl (pi_range1 rfl T.z_range (pa_cons pe_int pa_nil)) (pg_name (i := 5) sc_law.nd rfl (.inl rfl)) (pss_cons (ps_set (i := 8) sc_law.nd rfl (.inl rfl) (e_x K (v_ 4) (pe_op op_modM (pe_callTy call_intM (by rfl) T.z_int (by decide +kernel) (pa_cons (v_ 5) pa_nil)) pe_int))) (pss_cons (ps_asg (pe_call c__law_walk.G (hr.mono (by first | decide | omega)) rfl c__law_walk.m c__law_walk.kp c__law_walk.b .nil pass0 (pa_cons (e_x K (v_ 3) (pe_op op_modM (pe_callTy call_intM (by rfl) T.z_int (by decide +kernel) (pa_cons (v_ 5) pa_nil)) pe_int)) pa_nil)) (pg_tup (by rfl) (pgs_cons (pg_name (i := 10) sc_law.nd rfl (.inl rfl)) (pgs_cons (pg_name (i := 11) sc_law.nd rfl (.inl rfl)) pgs_nil)))) (pss_cons (ps_set (i := 9) sc_law.nd rfl (.inl rfl) (pe_meth0 (v_ 8) c_Plan_pairs.cl c_Plan_pairs.me c_Plan_pairs.G (hr.mono (by first | decide | omega)) c_Plan_pairs.b .nil pass0)) (pss_cons (ps_if (PW.pt (pw_or (pt_not (pt_t K (pe_call c__law_same.G (hr.mono (by first | decide | omega)) rfl c__law_same.m c__law_same.kp c__law_same.b .nil pass0 (pa_cons (v_ 9) (pa_cons (v_ 10) pa_nil))))) (pw_or1 (pt_not (pt_t K (pe_call c__law_same.G (hr.mono (by first | decide | omega)) rfl c__law_same.m c__law_same.kp c__law_same.b .nil pass0 (pa_cons (pe_prop (v_ 8) c_Plan_waste.cl c_Plan_waste.pr c_Plan_waste.G (hr.mono (by first | decide | omega)) c_Plan_waste.b .nil pass0 (by rfl)) (pa_cons (v_ 11) pa_nil)))))))) (pss_one (ps_ret pe_bl)) pss_nil) (pss_cons (ps_expr (pe_bm0 PySem.F.plainAttrs_list PySem.F.slot_list_reverse PySem.F.type_list_reverse mt_reverseL (v_ 9))) (pss_one (ps_expr (pe_bm PySem.F.plainAttrs_list PySem.F.slot_list_append PySem.F.type_list_append mt_append (v_ 9) (pa_cons (pe_tup (pa_cons (e_x K (v_ 2) pe_int) (pa_cons (e_x K (v_ 2) pe_int) pa_nil))) pa_nil)))))))))) (pss_one (ps_ret pe_bl)))))))), ?_⟩
  refine ⟨a, ns, rfl, hS, hl, fun H1 st scr s1 n1 n2 d1 => ?_⟩
  refine ⟨st, scr, 4, rfl, d1, by decide, fun H2 p zs b2 d2 np hp lz hz nz => ?_⟩
  have pst : p ≠ st := d1.ne_new np
  clear b2 d1 s1 hS
  refine ⟨Nat.zero_le _, fun Rw nRw => ?_⟩
  refine ⟨Nat.zero_le _, fun Pl nPl => ?_⟩
  have RP : Rw ≠ Pl := (new_ne nPl).symm
  have nPl0 := free_new nPl
  have Rs := d2.ne_new nRw
  have Rc := d2.ne_scr nRw
  have Ps := d2.ne_new nPl0
  have Pc := d2.ne_scr nPl0
  have sm := (same_new (o := .lst []) nRw).trans (same_new (o := .lst []) nPl)
  have pRw : p ≠ Rw := ne_of_none hp nRw
  have pPl : p ≠ Pl := ne_of_none hp nPl0
  have hp3 := sm _ _ hp
  have d3 := d2.new sm
  have e1 : (upd (upd H2 Rw (.lst [])) Pl (.lst [])) Rw = some (.lst (([] : List Addr).map V.ref)) := by rw [upd_ne RP, upd_same]; rfl
  have e2 : (upd (upd H2 Rw (.lst [])) Pl (.lst [])) Pl = some (.lst (([] : List Addr).map V.ref)) := upd_same
  generalize upd (upd H2 Rw (.lst [])) Pl (.lst []) = H3 at hp3 d3 e1 e2 ⊢
  clear sm hp d2 nRw nPl nPl0
  refine ⟨2, rfl, by decide, by decide, ?_⟩
  refine for_range (lo := 0) (n := 2) (fun i σ' H' => ∃ (y5 y6 y7 : Option V) (rs xs : List Addr), σ' = [some (.ref a), some (.ref st), some (.ref p), some (.ref Rw), some (.ref Pl), y5, y6, y7, none, none, none, none] ∧ DrAt H' st scr ∧ H' p = some (.lst (zs.map V.str)) ∧ H' Rw = some (.lst (rs.map V.ref)) ∧ H' Pl = some (.lst (xs.map V.ref)) ∧ rs.length = i ∧ xs.length = i ∧ Els K H' st Rw Pl rs xs) ⟨_, _, _, [], [], rfl, d3, hp3, e1, e2, rfl, rfl, fun j x R h => by simp at h⟩ ?_ ?_
  · rintro i σ' H4 hi ⟨y5, y6, y7, rs, xs, rfl, d4, hp4, hR4, hP4, lr, lx, els⟩
    refine ⟨st, scr, p, zs.map V.str, rfl, d4, hp4, pst, by rw [List.length_map]; omega, fun H6 m ys b6 d6 nm hm pm => ?_⟩
    obtain ⟨ws, eys, pmS⟩ := perm_strs pm
    subst eys
    clear pm
    have ms : m ≠ st := d4.ne_new nm
    refine ⟨st, scr, 4, rfl, d6, by decide, many_small (by decide) (by decide), fun r l r0 r1 d7 => ?_⟩
    obtain ⟨f1, f2, f0⟩ := four_nat r0 r1
    have b7 : Bt st H4 (upd H6 st (.lst l)) := b6.trans Bt.st
    have hm7 : upd H6 st (.lst l) m = some (.lst (ws.map V.str)) := by rw [upd_ne ms]; exact hm
    generalize upd H6 st (.lst l) = H7 at d7 b7 hm7 ⊢
    clear b6 d6 hm nm
    refine ⟨4 - r, rfl, .inl ⟨_, SqL.of hm7, fun u nu => ?_⟩⟩
    rw [cutV_take _ f0, take_map]
    have us : u ≠ st := d7.ne_new nu
    have uRw : u ≠ Rw := (ne_of_none (b7 _ _ Rs hR4) nu).symm
    have uPl : u ≠ Pl := (ne_of_none (b7 _ _ Ps hP4) nu).symm
    have sm := same_new (o := .lst ((ws.take (4 - r).toNat).map V.str)) nu
    have hu : (upd H7 u (.lst ((ws.take (4 - r).toNat).map V.str))) u = some (.lst ((ws.take (4 - r).toNat).map V.str)) := upd_same
    have b8 := b7.trans (Bt.same sm)
    have d8 := d7.new sm
    have lw : ws.length = 4 := by rw [pmS.length_eq]; omega
    generalize upd H7 u (.lst ((ws.take (4 - r).toNat).map V.str)) = H8 at hu d8 b8 ⊢
    have lc : (ws.take (4 - r).toNat).length ≤ 4 ∧ ws.take (4 - r).toNat ≠ [] := ⟨by rw [List.length_take]; omega, fun e => by have := congrArg List.length e; rw [List.length_take, List.length_nil] at this; omega⟩
    have nc : (ws.take (4 - r).toNat).Nodup := (pmS.nodup_iff.mpr nz).sublist (List.take_sublist _ _)
    have hc : ∀ z ∈ ws.take (4 - r).toNat, isName z = true ∧ z.length ≤ 12 := fun z h => hz z (pmS.mem_iff.mp (List.mem_of_mem_take h))
    generalize ws.take (4 - r).toNat = cs at hu lc nc hc
    clear sm b7 d7 hm7 nu f1 f2 f0 r0 r1 pmS lw
    -- the steps
    refine ⟨st, scr, u, cs, rfl, d8, hu, us, nc, lc.1, fun H9 R ps b9 d9 nR hR w => ?_⟩
    have Rst : R ≠ st := d8.ne_new nR
    have hu9 := b9 _ _ us hu
    have b9 := b8.trans b9
    have RRw : R ≠ Rw := (ne_of_none (b8 _ _ Rs hR4) nR).symm
    have RPl : R ≠ Pl := (ne_of_none (b8 _ _ Ps hP4) nR).symm
    have hR9 := b9 _ _ Rs hR4
    have hP9 := b9 _ _ Ps hP4
    have hp9 := b9 _ _ pst hp4
    have els9 : Els K H9 st Rw Pl rs xs := fun j x R h1 h2 => (els j x R h1 h2).bt (.inl rfl) d4.lst b9
    clear b8 b9 d8 hu nR els
    refine ⟨.inl ⟨rfl, _, SqL.of hR9⟩, Rw, rs.map V.ref, .ref R, rfl, rfl, hR9, line_lt (by rw [List.length_map]; omega), ?_⟩
    have b10 : Bt Rw H9 (upd H9 Rw (.lst (rs.map V.ref ++ [.ref R]))) := Bt.st
    have hR10 : (upd H9 Rw (.lst (rs.map V.ref ++ [.ref R]))) Rw = some (.lst ((rs ++ [R]).map V.ref)) := by rw [upd_same, List.map_append]; rfl
    have hP10 := b10 _ _ RP.symm hP9
    have hp10 := b10 _ _ pRw hp9
    have hu10 := b10 _ _ uRw hu9
    have d10 : DrAt (upd H9 Rw (.lst (rs.map V.ref ++ [.ref R]))) st scr := d9.at Rs Rc
    have hS10 := stL_bt hR RRw ⟨_, hR9⟩ b10
    have els10 : Els K (upd H9 Rw (.lst (rs.map V.ref ++ [.ref R]))) st Rw Pl rs xs := fun j x R h1 h2 => (els9 j x R h1 h2).bt (.inr (.inl rfl)) ⟨_, hR9⟩ b10
    show (fun H9 => _) (upd H9 Rw (.lst (rs.map V.ref ++ [.ref R])))
    generalize upd H9 Rw (.lst (rs.map V.ref ++ [.ref R])) = H10 at hR10 hP10 hp10 hu10 d10 hS10 els10 ⊢
    clear b10 hR9 hP9 hp9 hu9 d9 hR els9
    -- the plan
    refine ⟨.inl ⟨rfl, _, SqL.of hP10⟩, ?_⟩
    obtain ⟨us1, hRa, hP1⟩ := id hS10
    refine ⟨R, us1, rfl, .inl (SqL.of hRa), fun L1 nL1 => ?_⟩
    have sm := same_new (o := .lst us1) nL1
    have hs1 : ∃ us, (upd H10 L1 (.lst us1)) L1 = some (.lst us) ∧ PairsIn K (upd H10 L1 (.lst us1)) us ps := ⟨us1, upd_same, pairs_same hP1 sm⟩
    have up : ∀ {H H' : Hp} {R : Addr} {ps : List Stp}, Same H H' → (∃ us, H R = some (.lst us) ∧ PairsIn K H us ps) → ∃ us, H' R = some (.lst us) ∧ PairsIn K H' us ps := fun sm ⟨us, e, h⟩ => ⟨us, sm _ _ e, pairs_same h sm⟩
    have L1s : L1 ≠ st := d10.ne_new nL1
    have d12 := d10.new sm
    have hu12 := sm _ _ hu10
    have hS12 := up sm hS10
    have s12 : Same H10 (upd H10 L1 (.lst us1)) := sm
    generalize upd H10 L1 (.lst us1) = H12 at d12 hu12 hs1 hS12 s12 ⊢
    clear sm hRa hP1 nL1
    refine ⟨st, scr, u, 2, cs, rfl, d12, hu12, us, by omega, by decide, by decide, fun H13 D1 kp b13 d13 nD1 hD1 sl => ?_⟩
    have hs1 := stL_bt hs1 L1s d12.lst b13
    have hS13 := stL_bt hS12 Rst d12.lst b13
    have b13 : Bt st H10 H13 := (Bt.same s12).trans b13
    have hR13 := b13 _ _ Rs hR10
    have hP13 := b13 _ _ Ps hP10
    have hp13 := b13 _ _ pst hp10
    have els13 : Els K H13 st Rw Pl rs xs := fun j x R h1 h2 => (els10 j x R h1 h2).bt (.inl rfl) d10.lst b13
    have nk : kp.Nodup := nc.sublist sl
    have ik : ∀ z ∈ kp, z ∈ cs := fun z h => sl.subset h
    have lk2 : kp.length ≤ 4 := Nat.le_trans sl.length_le lc.1
    have fl := w.len
    clear b13 d12 hu12 hS12 s12 hR10 hP10 hp10 hu10 d10 hS10 els10 nD1 sl
    obtain ⟨us2, e2, h2⟩ := hs1
    refine ⟨rfl, rfl, ?_⟩
    refine fun x dx nx nd ne => made_plan nx nd ne T.n_Plan (lk := []) (kp := kp) ⟨us2, SqL.of e2, h2⟩ (.inl (c_Plan___init__.t1 _)) (.inr (SqL.of hD1)) (by omega) (by show 0 < 64; decide) (by omega) (w.names hc (fun _ h => nomatch h) ik) ?_
    refine w.plan lc.2 (fun z h => (hc z h).1) ⟨List.nodup_nil, fun _ h => nomatch h⟩ ⟨nk, ik⟩ fun H14 s14 hx => ⟨rfl, ?_⟩
    have hP14 := s14 _ _ hP13
    refine ⟨Pl, xs.map V.ref, .ref x, rfl, rfl, hP14, line_lt (by rw [List.length_map]; omega), ?_⟩
    have b15 : Bt Pl H14 (upd H14 Pl (.lst (xs.map V.ref ++ [.ref x]))) := Bt.st
    have els15 : Els K (upd H14 Pl (.lst (xs.map V.ref ++ [.ref x]))) st Rw Pl rs xs := fun j x R h1 h2 => ((els13 j x R h1 h2).same s14).bt (.inr (.inr rfl)) ⟨_, hP14⟩ b15
    have new : El1 K (upd H14 Pl (.lst (xs.map V.ref ++ [.ref x]))) st Rw Pl x R := ⟨Rst, RRw, RPl, ps, _, _, cs, hx.bt ⟨_, hP14⟩ b15, stL_bt (up s14 hS13) RPl ⟨_, hP14⟩ b15, w, lc.1⟩
    refine ⟨_, _, _, rs ++ [R], xs ++ [x], rfl, (d13.new s14).at Ps Pc, b15 _ _ pPl (s14 _ _ hp13), b15 _ _ RP (s14 _ _ hR13), by rw [upd_same, List.map_append]; rfl, by rw [List.length_append, lr]; rfl, by rw [List.length_append, lx]; rfl, fun j y S h1 h2 => ?_⟩
    by_cases hj : j < i
    · rw [List.getElem?_append_left (by omega)] at h1 h2
      exact els15 j y S h1 h2
    · rw [List.getElem?_append_right (by omega)] at h1 h2
      rw [lx] at h1
      rw [lr] at h2
      have z : j - i = 0 := by
        by_cases z : j - i = 0
        · exact z
        · rw [List.getElem?_eq_none (by rw [List.length_singleton]; omega)] at h1
          cases h1
      rw [z] at h1 h2
      cases h1
      cases h2
      exact new
  rintro σ' H4 ⟨y5, y6, y7, rs, xs, rfl, d4, hp4, hR4, hP4, lr, lx, els⟩
  refine ⟨4, rfl, by decide, by decide, ?_⟩
  refine for_range (lo := 0) (n := 4) (fun i σ' H' => (∃ y5 y6 y7 y8 y9 y10 y11, σ' = [some (.ref a), some (.ref st), some (.ref p), some (.ref Rw), some (.ref Pl), y5, y6, y7, y8, y9, y10, y11]) ∧ Same H4 H') ⟨⟨_, _, _, _, _, _, _, rfl⟩, Same.refl _⟩ ?_ ?_
  · rintro i σ' H5 hi ⟨⟨y5, y6, y7, y8, y9, y10, y11, rfl⟩, s5⟩
    have im : (0 + (i : Int)) % 2 = ((i % 2 : Nat) : Int) := by omega
    obtain ⟨x, ex⟩ : ∃ x, xs[i % 2]? = some x := ⟨_, List.getElem?_eq_getElem (by omega)⟩
    obtain ⟨R, eR⟩ : ∃ R, rs[i % 2]? = some R := ⟨_, List.getElem?_eq_getElem (by omega)⟩
    have ax : atI (xs.map V.ref) ((0 + (i : Int)) % 2) = some (.ref x) := by rw [im]; exact atI_nat (by rw [List.getElem?_map, ex]; rfl)
    have aR : atI (rs.map V.ref) ((0 + (i : Int)) % 2) = some (.ref R) := by rw [im]; exact atI_nat (by rw [List.getElem?_map, eR]; rfl)
    obtain ⟨_, _, _, ps, lk, kp, cs, hx, ⟨us, hRs, hus⟩, w, lc⟩ := (els _ x R ex eR).same s5
    have fl := w.len
    refine ⟨by decide, _, .inl (SqL.of (s5 _ _ hP4)), _, ax, ?_⟩
    refine ⟨by decide, _, .inl (SqL.of (s5 _ _ hR4)), _, aR, ?_⟩
    refine ⟨R, ps, rfl, ⟨us, SqL.of hRs, hus⟩, w.g, by omega, fun H6 t r us6 s6 ht hr6 hp6 => ?_⟩
    rw [walk_waste w.g] at ht
    rw [walk_pairs w.g] at hp6
    refine ⟨t, _, rfl, SqT.of ht, rfl, _, _, rfl, _, _, rfl, rfl, ?_⟩
    have hx6 := hx.same s6
    obtain ⟨C, dx, t1, l1, k1, hC, ha, _⟩ := id hx6
    cases hC.symm.trans T.n_Plan
    refine ⟨x, dx, _, rfl, ha, rfl, x, ps, lk, kp, rfl, hx6, by omega, fun H7 D s7 nD hD => ?_⟩
    obtain ⟨us7, hD7, hp7⟩ := hD
    have pl := pairsOf_len w lc
    refine ⟨.ref D, .ref r, rfl, same_pairs hD7 (s7 _ _ hr6) hp7 (pairs_same hp6 s7) (by omega), ?_⟩
    refine ⟨x, dx, _, rfl, s7 _ _ ha, x, ps, lk, kp, rfl, hx6.same s7, by omega, fun H8 s8 => ?_⟩
    refine ⟨_, _, rfl, same_int _, ?_⟩
    have hD8 := s8 _ _ hD7
    have nD4 : H4 D = none := Same.free (s5.trans s6) nD
    have s8 := (((s5.trans s6).trans s7).trans s8)
    refine ⟨.inl ⟨rfl, _, SqL.of hD8⟩, D, us7, rfl, rfl, hD8, ?_⟩
    have s9 : Same H4 (upd H8 D (.lst us7.reverse)) := fun b o e => by rw [upd_ne (ne_of_none e nD4)]; exact s8 _ _ e
    have hD9 : (upd H8 D (.lst us7.reverse)) D = some (.lst us7.reverse) := upd_same
    generalize upd H8 D (.lst us7.reverse) = H9 at s9 hD9 ⊢
    obtain ⟨z, ez⟩ : ∃ z, zs[0]? = some z := ⟨_, List.getElem?_eq_getElem (by omega)⟩
    have az : atI (zs.map V.str) 0 = some (.str z) := atI_nat (j := 0) (by rw [List.getElem?_map, ez]; rfl)
    refine ⟨.inl ⟨rfl, _, SqL.of hD9⟩, _, .inl (SqL.of (s9 _ _ hp4)), _, az, _, .inl (SqL.of (s9 _ _ hp4)), _, az, (by show 2 ≤ sizeLine; decide), fun T nT => ⟨D, us7.reverse, .ref T, rfl, rfl, (same_new nT) _ _ hD9, line_lt (by have := pairs_len hp7; rw [List.length_reverse]; omega), ?_⟩⟩
    exact ⟨⟨_, _, _, _, _, _, _, rfl⟩, fun b o e => by rw [upd_ne (ne_of_none e nD4)]; exact same_new nT _ _ (s9 _ _ e)⟩
  · rintro σ' H5 ⟨⟨y5, y6, y7, y8, y9, y10, y11, rfl⟩, s5⟩
    exact q _
end
theorem all_mk {l : PySem.W.OpenLaw} {w : World} {K : PySem.W.Frag} {h : Heap} {mg : Str → Option Value} {fa : Addr} {t_LETTERS t_LONGEST_NAME : Tok} {a_DEEDS a_RESERVED a_BadName a_BadPlan a_Plan : Addr} {f_is_name f_check_name f_looked_at f_step_fits f_steps_fit f_keys_fit f__law_state f__law_draw f__law_mixed f__law_names f__law_is_int f__law_same f__law_wild_steps f__law_safe_steps f__law_some f__law_walk f__law_steps f_Plan__place f_Plan__holds f_Plan_pairs f_Plan___init__ f_Plan_waste f_law : Addr} {od_is_name an_is_name : Option Addr} {sl_is_name : Array (Option Value)} {oc_is_name kV_is_name dc_is_name pm_is_name cd_is_name ct_is_name : Value} {od_check_name an_check_name : Option Addr} {sl_check_name : Array (Option Value)} {oc_check_name kV_check_name dc_check_name pm_check_name cd_check_name ct_check_name : Value} {od_looked_at an_looked_at : Option Addr} {sl_looked_at : Array (Option Value)} {oc_looked_at kV_looked_at dc_looked_at pm_looked_at cd_looked_at ct_looked_at : Value} {od_step_fits an_step_fits : Option Addr} {sl_step_fits : Array (Option Value)} {oc_step_fits kV_step_fits dc_step_fits pm_step_fits cd_step_fits ct_step_fits : Value} {od_steps_fit an_steps_fit : Option Addr} {sl_steps_fit : Array (Option Value)} {oc_steps_fit kV_steps_fit dc_steps_fit pm_steps_fit cd_steps_fit ct_steps_fit : Value} {od_keys_fit an_keys_fit : Option Addr} {sl_keys_fit : Array (Option Value)} {oc_keys_fit kV_keys_fit dc_keys_fit pm_keys_fit cd_keys_fit ct_keys_fit : Value} {od__law_state an__law_state : Option Addr} {sl__law_state : Array (Option Value)} {oc__law_state kV__law_state dc__law_state pm__law_state cd__law_state ct__law_state : Value} {od__law_draw an__law_draw : Option Addr} {sl__law_draw : Array (Option Value)} {oc__law_draw kV__law_draw dc__law_draw pm__law_draw cd__law_draw ct__law_draw : Value} {od__law_mixed an__law_mixed : Option Addr} {sl__law_mixed : Array (Option Value)} {oc__law_mixed kV__law_mixed dc__law_mixed pm__law_mixed cd__law_mixed ct__law_mixed : Value} {od__law_names an__law_names : Option Addr} {sl__law_names : Array (Option Value)} {oc__law_names kV__law_names dc__law_names pm__law_names cd__law_names ct__law_names : Value} {od__law_is_int an__law_is_int : Option Addr} {sl__law_is_int : Array (Option Value)} {oc__law_is_int kV__law_is_int dc__law_is_int pm__law_is_int cd__law_is_int ct__law_is_int : Value} {od__law_same an__law_same : Option Addr} {sl__law_same : Array (Option Value)} {oc__law_same kV__law_same dc__law_same pm__law_same cd__law_same ct__law_same : Value} {od__law_wild_steps an__law_wild_steps : Option Addr} {sl__law_wild_steps : Array (Option Value)} {oc__law_wild_steps kV__law_wild_steps dc__law_wild_steps pm__law_wild_steps cd__law_wild_steps ct__law_wild_steps : Value} {od__law_safe_steps an__law_safe_steps : Option Addr} {sl__law_safe_steps : Array (Option Value)} {oc__law_safe_steps kV__law_safe_steps dc__law_safe_steps pm__law_safe_steps cd__law_safe_steps ct__law_safe_steps : Value} {od__law_some an__law_some : Option Addr} {sl__law_some : Array (Option Value)} {oc__law_some kV__law_some dc__law_some pm__law_some cd__law_some ct__law_some : Value} {od__law_walk an__law_walk : Option Addr} {sl__law_walk : Array (Option Value)} {oc__law_walk kV__law_walk dc__law_walk pm__law_walk cd__law_walk ct__law_walk : Value} {od__law_steps an__law_steps : Option Addr} {sl__law_steps : Array (Option Value)} {oc__law_steps kV__law_steps dc__law_steps pm__law_steps cd__law_steps ct__law_steps : Value} {od_Plan__place an_Plan__place : Option Addr} {sl_Plan__place : Array (Option Value)} {oc_Plan__place kV_Plan__place dc_Plan__place pm_Plan__place cd_Plan__place ct_Plan__place : Value} {od_Plan__holds an_Plan__holds : Option Addr} {sl_Plan__holds : Array (Option Value)} {oc_Plan__holds kV_Plan__holds dc_Plan__holds pm_Plan__holds cd_Plan__holds ct_Plan__holds : Value} {od_Plan_pairs an_Plan_pairs : Option Addr} {sl_Plan_pairs : Array (Option Value)} {oc_Plan_pairs kV_Plan_pairs dc_Plan_pairs pm_Plan_pairs cd_Plan_pairs ct_Plan_pairs : Value} {od_Plan___init__ an_Plan___init__ : Option Addr} {sl_Plan___init__ : Array (Option Value)} {oc_Plan___init__ dc_Plan___init__ pm_Plan___init__ cd_Plan___init__ ct_Plan___init__ : Value} {kD_Plan___init__ e1_Plan___init__ e2_Plan___init__ : Addr} {eo1_Plan___init__ : Option Addr} {ei1_Plan___init__ : Array Value} {en1_Plan___init__ : Nat} {el1_Plan___init__ : Array (Option Value)} {eo2_Plan___init__ : Option Addr} {ei2_Plan___init__ : Array Value} {en2_Plan___init__ : Nat} {el2_Plan___init__ : Array (Option Value)} {p_Plan_waste : Addr} {r_Plan_waste : List Value} {od_Plan_waste an_Plan_waste : Option Addr} {sl_Plan_waste : Array (Option Value)} {oc_Plan_waste kV_Plan_waste dc_Plan_waste pm_Plan_waste cd_Plan_waste ct_Plan_waste : Value} {od_law an_law : Option Addr} {sl_law : Array (Option Value)} {oc_law kV_law dc_law pm_law cd_law ct_law : Value} {od_DEEDS : Option Addr} {its_DEEDS : Array Value} {n_DEEDS : Nat} {sl_DEEDS : Array (Option Value)} {od_RESERVED : Option Addr} {its_RESERVED : Array Value} {n_RESERVED : Nat} {sl_RESERVED : Array (Option Value)} {f_BadName N_BadName cc_BadName cda_BadName : Addr} {nm_BadName q_BadName : Str} {bs_BadName bm_BadName : List Value} {sn_BadName : List Str} {sub_BadName : List Value} {ab_BadName : Bool} {col_BadName : Option Bool} {dd_BadName : Option Addr} {e0_BadName e1_BadName e2_BadName e3_BadName e5_BadName : Option Value} {oc_BadName doc_BadName pm_BadName ct_BadName ccl_BadName cl_BadName : Value} {od_BadName cdd_BadName cld_BadName : Option Addr} {osl_BadName ccs_BadName csl_BadName : Array (Option Value)} {vs_BadName : Array Value} {file_BadName : Str} {tf_BadName : Tok} {cdD_BadName : ClassData} {f_BadPlan N_BadPlan cc_BadPlan cda_BadPlan : Addr} {nm_BadPlan q_BadPlan : Str} {bs_BadPlan bm_BadPlan : List Value} {sn_BadPlan : List Str} {sub_BadPlan : List Value} {ab_BadPlan : Bool} {col_BadPlan : Option Bool} {dd_BadPlan : Option Addr} {e0_BadPlan e1_BadPlan e2_BadPlan e3_BadPlan e5_BadPlan : Option Value} {oc_BadPlan doc_BadPlan pm_BadPlan ct_BadPlan ccl_BadPlan cl_BadPlan : Value} {od_BadPlan cdd_BadPlan cld_BadPlan : Option Addr} {osl_BadPlan ccs_BadPlan csl_BadPlan : Array (Option Value)} {vs_BadPlan : Array Value} {file_BadPlan : Str} {tf_BadPlan : Tok} {cdD_BadPlan : ClassData} (X : K.In h) (G : h.Ns mainGlobals mg) (hfa : mg "law" = some (.ref fa))
    (g_Plan : PySem.W.nsIn K mainGlobals "Plan" = some (some (.ref a_Plan)))
    (pg_Plan : PySem.W.plainGet K a_Plan Str.empty = true)
    (hx_Plan : PySem.W.hasDictIn K a_Plan = true)
    (po_Plan : PySem.W.plainOver K a_Plan = true)
    (st_Plan : PySem.W.findIn K (.ref a_Plan) "__setattr__" = some (some (.builtin "object.__setattr__")))
    (rr_Plan : PySem.W.readsIn K a_Plan (.type "type") = true)
    (rg_Plan : PySem.W.specialIn K (.ref a_Plan) "__getattribute__" = some (some (.builtin "type.__getattribute__")))
    (mi_Plan : PySem.W.makesIn K a_Plan = true)
    (ko_Plan : PySem.W.keepIn K (.ref a_Plan) = true)
    (sf_Plan : PySem.W.selfFirst K a_Plan = true)
    (na_Plan_kept : PySem.W.findIn K (.ref a_Plan) "kept" = some none)
    (na_Plan_locked : PySem.W.findIn K (.ref a_Plan) "locked" = some none)
    (na_Plan_steps : PySem.W.findIn K (.ref a_Plan) "steps" = some none)
    (a_is_name : PySem.W.nsIn K mainGlobals "is_name" = some (some (.ref f_is_name)))
    (l_is_name : K.lookup f_is_name = some ⟨oc_is_name, od_is_name, .func (PySem.W.fnOf "is_name" "is_name" (defArgs s_is_name) (defBody s_is_name) (defScope s_is_name) .none kV_is_name dc_is_name pm_is_name an_is_name cd_is_name ct_is_name), sl_is_name⟩)
    (c_is_name : PySem.W.codeIn K cd_is_name "is_name" = true)
    (k_is_name : PySem.W.keepIn K (.ref f_is_name) = true)
    (a_check_name : PySem.W.nsIn K mainGlobals "check_name" = some (some (.ref f_check_name)))
    (l_check_name : K.lookup f_check_name = some ⟨oc_check_name, od_check_name, .func (PySem.W.fnOf "check_name" "check_name" (defArgs s_check_name) (defBody s_check_name) (defScope s_check_name) .none kV_check_name dc_check_name pm_check_name an_check_name cd_check_name ct_check_name), sl_check_name⟩)
    (c_check_name : PySem.W.codeIn K cd_check_name "check_name" = true)
    (k_check_name : PySem.W.keepIn K (.ref f_check_name) = true)
    (a_looked_at : PySem.W.nsIn K mainGlobals "looked_at" = some (some (.ref f_looked_at)))
    (l_looked_at : K.lookup f_looked_at = some ⟨oc_looked_at, od_looked_at, .func (PySem.W.fnOf "looked_at" "looked_at" (defArgs s_looked_at) (defBody s_looked_at) (defScope s_looked_at) .none kV_looked_at dc_looked_at pm_looked_at an_looked_at cd_looked_at ct_looked_at), sl_looked_at⟩)
    (c_looked_at : PySem.W.codeIn K cd_looked_at "looked_at" = true)
    (k_looked_at : PySem.W.keepIn K (.ref f_looked_at) = true)
    (a_step_fits : PySem.W.nsIn K mainGlobals "step_fits" = some (some (.ref f_step_fits)))
    (l_step_fits : K.lookup f_step_fits = some ⟨oc_step_fits, od_step_fits, .func (PySem.W.fnOf "step_fits" "step_fits" (defArgs s_step_fits) (defBody s_step_fits) (defScope s_step_fits) .none kV_step_fits dc_step_fits pm_step_fits an_step_fits cd_step_fits ct_step_fits), sl_step_fits⟩)
    (c_step_fits : PySem.W.codeIn K cd_step_fits "step_fits" = true)
    (k_step_fits : PySem.W.keepIn K (.ref f_step_fits) = true)
    (a_steps_fit : PySem.W.nsIn K mainGlobals "steps_fit" = some (some (.ref f_steps_fit)))
    (l_steps_fit : K.lookup f_steps_fit = some ⟨oc_steps_fit, od_steps_fit, .func (PySem.W.fnOf "steps_fit" "steps_fit" (defArgs s_steps_fit) (defBody s_steps_fit) (defScope s_steps_fit) .none kV_steps_fit dc_steps_fit pm_steps_fit an_steps_fit cd_steps_fit ct_steps_fit), sl_steps_fit⟩)
    (c_steps_fit : PySem.W.codeIn K cd_steps_fit "steps_fit" = true)
    (k_steps_fit : PySem.W.keepIn K (.ref f_steps_fit) = true)
    (a_keys_fit : PySem.W.nsIn K mainGlobals "keys_fit" = some (some (.ref f_keys_fit)))
    (l_keys_fit : K.lookup f_keys_fit = some ⟨oc_keys_fit, od_keys_fit, .func (PySem.W.fnOf "keys_fit" "keys_fit" (defArgs s_keys_fit) (defBody s_keys_fit) (defScope s_keys_fit) .none kV_keys_fit dc_keys_fit pm_keys_fit an_keys_fit cd_keys_fit ct_keys_fit), sl_keys_fit⟩)
    (c_keys_fit : PySem.W.codeIn K cd_keys_fit "keys_fit" = true)
    (k_keys_fit : PySem.W.keepIn K (.ref f_keys_fit) = true)
    (a__law_state : PySem.W.nsIn K mainGlobals "_law_state" = some (some (.ref f__law_state)))
    (l__law_state : K.lookup f__law_state = some ⟨oc__law_state, od__law_state, .func (PySem.W.fnOf "_law_state" "_law_state" (defArgs s__law_state) (defBody s__law_state) (defScope s__law_state) .none kV__law_state dc__law_state pm__law_state an__law_state cd__law_state ct__law_state), sl__law_state⟩)
    (c__law_state : PySem.W.codeIn K cd__law_state "_law_state" = true)
    (k__law_state : PySem.W.keepIn K (.ref f__law_state) = true)
    (a__law_draw : PySem.W.nsIn K mainGlobals "_law_draw" = some (some (.ref f__law_draw)))
    (l__law_draw : K.lookup f__law_draw = some ⟨oc__law_draw, od__law_draw, .func (PySem.W.fnOf "_law_draw" "_law_draw" (defArgs s__law_draw) (defBody s__law_draw) (defScope s__law_draw) .none kV__law_draw dc__law_draw pm__law_draw an__law_draw cd__law_draw ct__law_draw), sl__law_draw⟩)
    (c__law_draw : PySem.W.codeIn K cd__law_draw "_law_draw" = true)
    (k__law_draw : PySem.W.keepIn K (.ref f__law_draw) = true)
    (a__law_mixed : PySem.W.nsIn K mainGlobals "_law_mixed" = some (some (.ref f__law_mixed)))
    (l__law_mixed : K.lookup f__law_mixed = some ⟨oc__law_mixed, od__law_mixed, .func (PySem.W.fnOf "_law_mixed" "_law_mixed" (defArgs s__law_mixed) (defBody s__law_mixed) (defScope s__law_mixed) .none kV__law_mixed dc__law_mixed pm__law_mixed an__law_mixed cd__law_mixed ct__law_mixed), sl__law_mixed⟩)
    (c__law_mixed : PySem.W.codeIn K cd__law_mixed "_law_mixed" = true)
    (k__law_mixed : PySem.W.keepIn K (.ref f__law_mixed) = true)
    (a__law_names : PySem.W.nsIn K mainGlobals "_law_names" = some (some (.ref f__law_names)))
    (l__law_names : K.lookup f__law_names = some ⟨oc__law_names, od__law_names, .func (PySem.W.fnOf "_law_names" "_law_names" (defArgs s__law_names) (defBody s__law_names) (defScope s__law_names) .none kV__law_names dc__law_names pm__law_names an__law_names cd__law_names ct__law_names), sl__law_names⟩)
    (c__law_names : PySem.W.codeIn K cd__law_names "_law_names" = true)
    (k__law_names : PySem.W.keepIn K (.ref f__law_names) = true)
    (a__law_is_int : PySem.W.nsIn K mainGlobals "_law_is_int" = some (some (.ref f__law_is_int)))
    (l__law_is_int : K.lookup f__law_is_int = some ⟨oc__law_is_int, od__law_is_int, .func (PySem.W.fnOf "_law_is_int" "_law_is_int" (defArgs s__law_is_int) (defBody s__law_is_int) (defScope s__law_is_int) .none kV__law_is_int dc__law_is_int pm__law_is_int an__law_is_int cd__law_is_int ct__law_is_int), sl__law_is_int⟩)
    (c__law_is_int : PySem.W.codeIn K cd__law_is_int "_law_is_int" = true)
    (k__law_is_int : PySem.W.keepIn K (.ref f__law_is_int) = true)
    (a__law_same : PySem.W.nsIn K mainGlobals "_law_same" = some (some (.ref f__law_same)))
    (l__law_same : K.lookup f__law_same = some ⟨oc__law_same, od__law_same, .func (PySem.W.fnOf "_law_same" "_law_same" (defArgs s__law_same) (defBody s__law_same) (defScope s__law_same) .none kV__law_same dc__law_same pm__law_same an__law_same cd__law_same ct__law_same), sl__law_same⟩)
    (c__law_same : PySem.W.codeIn K cd__law_same "_law_same" = true)
    (k__law_same : PySem.W.keepIn K (.ref f__law_same) = true)
    (a__law_wild_steps : PySem.W.nsIn K mainGlobals "_law_wild_steps" = some (some (.ref f__law_wild_steps)))
    (l__law_wild_steps : K.lookup f__law_wild_steps = some ⟨oc__law_wild_steps, od__law_wild_steps, .func (PySem.W.fnOf "_law_wild_steps" "_law_wild_steps" (defArgs s__law_wild_steps) (defBody s__law_wild_steps) (defScope s__law_wild_steps) .none kV__law_wild_steps dc__law_wild_steps pm__law_wild_steps an__law_wild_steps cd__law_wild_steps ct__law_wild_steps), sl__law_wild_steps⟩)
    (c__law_wild_steps : PySem.W.codeIn K cd__law_wild_steps "_law_wild_steps" = true)
    (k__law_wild_steps : PySem.W.keepIn K (.ref f__law_wild_steps) = true)
    (a__law_safe_steps : PySem.W.nsIn K mainGlobals "_law_safe_steps" = some (some (.ref f__law_safe_steps)))
    (l__law_safe_steps : K.lookup f__law_safe_steps = some ⟨oc__law_safe_steps, od__law_safe_steps, .func (PySem.W.fnOf "_law_safe_steps" "_law_safe_steps" (defArgs s__law_safe_steps) (defBody s__law_safe_steps) (defScope s__law_safe_steps) .none kV__law_safe_steps dc__law_safe_steps pm__law_safe_steps an__law_safe_steps cd__law_safe_steps ct__law_safe_steps), sl__law_safe_steps⟩)
    (c__law_safe_steps : PySem.W.codeIn K cd__law_safe_steps "_law_safe_steps" = true)
    (k__law_safe_steps : PySem.W.keepIn K (.ref f__law_safe_steps) = true)
    (a__law_some : PySem.W.nsIn K mainGlobals "_law_some" = some (some (.ref f__law_some)))
    (l__law_some : K.lookup f__law_some = some ⟨oc__law_some, od__law_some, .func (PySem.W.fnOf "_law_some" "_law_some" (defArgs s__law_some) (defBody s__law_some) (defScope s__law_some) .none kV__law_some dc__law_some pm__law_some an__law_some cd__law_some ct__law_some), sl__law_some⟩)
    (c__law_some : PySem.W.codeIn K cd__law_some "_law_some" = true)
    (k__law_some : PySem.W.keepIn K (.ref f__law_some) = true)
    (a__law_walk : PySem.W.nsIn K mainGlobals "_law_walk" = some (some (.ref f__law_walk)))
    (l__law_walk : K.lookup f__law_walk = some ⟨oc__law_walk, od__law_walk, .func (PySem.W.fnOf "_law_walk" "_law_walk" (defArgs s__law_walk) (defBody s__law_walk) (defScope s__law_walk) .none kV__law_walk dc__law_walk pm__law_walk an__law_walk cd__law_walk ct__law_walk), sl__law_walk⟩)
    (c__law_walk : PySem.W.codeIn K cd__law_walk "_law_walk" = true)
    (k__law_walk : PySem.W.keepIn K (.ref f__law_walk) = true)
    (a__law_steps : PySem.W.nsIn K mainGlobals "_law_steps" = some (some (.ref f__law_steps)))
    (l__law_steps : K.lookup f__law_steps = some ⟨oc__law_steps, od__law_steps, .func (PySem.W.fnOf "_law_steps" "_law_steps" (defArgs s__law_steps) (defBody s__law_steps) (defScope s__law_steps) .none kV__law_steps dc__law_steps pm__law_steps an__law_steps cd__law_steps ct__law_steps), sl__law_steps⟩)
    (c__law_steps : PySem.W.codeIn K cd__law_steps "_law_steps" = true)
    (k__law_steps : PySem.W.keepIn K (.ref f__law_steps) = true)
    (fa_Plan__place : PySem.W.findIn K (.ref a_Plan) "_place" = some (some (.ref f_Plan__place)))
    (fn_Plan__place : PySem.W.isFn K (.ref f_Plan__place) = true)
    (l_Plan__place : K.lookup f_Plan__place = some ⟨oc_Plan__place, od_Plan__place, .func (PySem.W.fnOf "_place" "Plan._place" (defArgs s_Plan__place) (defBody s_Plan__place) (defScope s_Plan__place) .none kV_Plan__place dc_Plan__place pm_Plan__place an_Plan__place cd_Plan__place ct_Plan__place), sl_Plan__place⟩)
    (c_Plan__place : PySem.W.codeIn K cd_Plan__place "Plan._place" = true)
    (k_Plan__place : PySem.W.keepIn K (.ref f_Plan__place) = true)
    (fa_Plan__holds : PySem.W.findIn K (.ref a_Plan) "_holds" = some (some (.ref f_Plan__holds)))
    (fn_Plan__holds : PySem.W.isFn K (.ref f_Plan__holds) = true)
    (l_Plan__holds : K.lookup f_Plan__holds = some ⟨oc_Plan__holds, od_Plan__holds, .func (PySem.W.fnOf "_holds" "Plan._holds" (defArgs s_Plan__holds) (defBody s_Plan__holds) (defScope s_Plan__holds) .none kV_Plan__holds dc_Plan__holds pm_Plan__holds an_Plan__holds cd_Plan__holds ct_Plan__holds), sl_Plan__holds⟩)
    (c_Plan__holds : PySem.W.codeIn K cd_Plan__holds "Plan._holds" = true)
    (k_Plan__holds : PySem.W.keepIn K (.ref f_Plan__holds) = true)
    (fa_Plan_pairs : PySem.W.findIn K (.ref a_Plan) "pairs" = some (some (.ref f_Plan_pairs)))
    (fn_Plan_pairs : PySem.W.isFn K (.ref f_Plan_pairs) = true)
    (l_Plan_pairs : K.lookup f_Plan_pairs = some ⟨oc_Plan_pairs, od_Plan_pairs, .func (PySem.W.fnOf "pairs" "Plan.pairs" (defArgs s_Plan_pairs) (defBody s_Plan_pairs) (defScope s_Plan_pairs) .none kV_Plan_pairs dc_Plan_pairs pm_Plan_pairs an_Plan_pairs cd_Plan_pairs ct_Plan_pairs), sl_Plan_pairs⟩)
    (c_Plan_pairs : PySem.W.codeIn K cd_Plan_pairs "Plan.pairs" = true)
    (k_Plan_pairs : PySem.W.keepIn K (.ref f_Plan_pairs) = true)
    (fa_Plan___init__ : PySem.W.findIn K (.ref a_Plan) "__init__" = some (some (.ref f_Plan___init__)))
    (fn_Plan___init__ : PySem.W.isFn K (.ref f_Plan___init__) = true)
    (l_Plan___init__ : K.lookup f_Plan___init__ = some ⟨oc_Plan___init__, od_Plan___init__, .func (PySem.W.fnOf "__init__" "Plan.__init__" (defArgs s_Plan___init__) (defBody s_Plan___init__) (defScope s_Plan___init__) .none (.ref kD_Plan___init__) dc_Plan___init__ pm_Plan___init__ an_Plan___init__ cd_Plan___init__ ct_Plan___init__), sl_Plan___init__⟩)
    (ek1_Plan___init__ : PySem.W.nsIn K kD_Plan___init__ "locked" = some (some (.ref e1_Plan___init__)))
    (el_1_Plan___init__ : K.lookup e1_Plan___init__ = some ⟨.type "tuple", eo1_Plan___init__, .seq ei1_Plan___init__ en1_Plan___init__, el1_Plan___init__⟩)
    (v_e1_Plan___init__ : Vals [] ei1_Plan___init__.toList)
    (ek2_Plan___init__ : PySem.W.nsIn K kD_Plan___init__ "kept" = some (some (.ref e2_Plan___init__)))
    (el_2_Plan___init__ : K.lookup e2_Plan___init__ = some ⟨.type "tuple", eo2_Plan___init__, .seq ei2_Plan___init__ en2_Plan___init__, el2_Plan___init__⟩)
    (v_e2_Plan___init__ : Vals [] ei2_Plan___init__.toList)
    (c_Plan___init__ : PySem.W.codeIn K cd_Plan___init__ "Plan.__init__" = true)
    (k_Plan___init__ : PySem.W.keepIn K (.ref f_Plan___init__) = true)
    (pa_Plan_waste : PySem.W.findIn K (.ref a_Plan) "waste" = some (some (.ref p_Plan_waste)))
    (ps_Plan_waste : PySem.W.specialIn K (.ref p_Plan_waste) "__get__" = some (some (.builtin "property.__get__")))
    (pt_Plan_waste : PySem.W.takesIn K (.ref p_Plan_waste) = some true)
    (pr_Plan_waste : PySem.W.recIn K p_Plan_waste "property" = some (.ref f_Plan_waste :: r_Plan_waste))
    (l_Plan_waste : K.lookup f_Plan_waste = some ⟨oc_Plan_waste, od_Plan_waste, .func (PySem.W.fnOf "waste" "Plan.waste" (defArgs s_Plan_waste) (defBody s_Plan_waste) (defScope s_Plan_waste) .none kV_Plan_waste dc_Plan_waste pm_Plan_waste an_Plan_waste cd_Plan_waste ct_Plan_waste), sl_Plan_waste⟩)
    (c_Plan_waste : PySem.W.codeIn K cd_Plan_waste "Plan.waste" = true)
    (k_Plan_waste : PySem.W.keepIn K (.ref f_Plan_waste) = true)
    (a_law : PySem.W.nsIn K mainGlobals "law" = some (some (.ref f_law)))
    (l_law : K.lookup f_law = some ⟨oc_law, od_law, .func (PySem.W.fnOf "law" "law" (defArgs s_law) (defBody s_law) (defScope s_law) .none kV_law dc_law pm_law an_law cd_law ct_law), sl_law⟩)
    (c_law : PySem.W.codeIn K cd_law "law" = true)
    (k_law : PySem.W.keepIn K (.ref f_law) = true)
    (z_all : PySem.W.nsIn K mainGlobals "all" = some none)
    (z_bool : PySem.W.nsIn K mainGlobals "bool" = some none)
    (z_dict : PySem.W.nsIn K mainGlobals "dict" = some none)
    (z_enumerate : PySem.W.nsIn K mainGlobals "enumerate" = some none)
    (z_int : PySem.W.nsIn K mainGlobals "int" = some none)
    (z_isinstance : PySem.W.nsIn K mainGlobals "isinstance" = some none)
    (z_len : PySem.W.nsIn K mainGlobals "len" = some none)
    (z_list : PySem.W.nsIn K mainGlobals "list" = some none)
    (z_property : PySem.W.nsIn K mainGlobals "property" = some none)
    (z_range : PySem.W.nsIn K mainGlobals "range" = some none)
    (z_set : PySem.W.nsIn K mainGlobals "set" = some none)
    (z_str : PySem.W.nsIn K mainGlobals "str" = some none)
    (z_super : PySem.W.nsIn K mainGlobals "super" = some none)
    (z_tuple : PySem.W.nsIn K mainGlobals "tuple" = some none)
    (g_LETTERS : PySem.W.nsIn K mainGlobals "LETTERS" = some (some (.str "abcdefghijklmnopqrstuvwxyz" t_LETTERS)))
    (g_LONGEST_NAME : PySem.W.nsIn K mainGlobals "LONGEST_NAME" = some (some (.int 12 t_LONGEST_NAME)))
    (g_DEEDS : PySem.W.nsIn K mainGlobals "DEEDS" = some (some (.ref a_DEEDS)))
    (l_DEEDS : K.lookup a_DEEDS = some ⟨.type "tuple", od_DEEDS, .seq its_DEEDS n_DEEDS, sl_DEEDS⟩)
    (v_DEEDS : Vals [(.str "take"), (.str "look"), (.str "free")] its_DEEDS.toList)
    (g_RESERVED : PySem.W.nsIn K mainGlobals "RESERVED" = some (some (.ref a_RESERVED)))
    (l_RESERVED : K.lookup a_RESERVED = some ⟨.type "tuple", od_RESERVED, .seq its_RESERVED n_RESERVED, sl_RESERVED⟩)
    (v_RESERVED : Vals [(.str "always"), (.str "never"), (.str "and"), (.str "or"), (.str "not"), (.str "when"), (.str "add"), (.str "set"), (.str "change"), (.str "tell"), (.str "refuse"), (.str "take"), (.str "look"), (.str "free"), (.str "lock"), (.str "keep"), (.str "keys"), (.str "fields")] its_RESERVED.toList)
    (g_BadName : PySem.W.nsIn K mainGlobals "BadName" = some (some (.ref a_BadName)))
    (g_BadPlan : PySem.W.nsIn K mainGlobals "BadPlan" = some (some (.ref a_BadPlan)))
    (st_any : PySem.W.nsIn K PySem.cStatics "thirdparty.any" = some none)
    (htop : (l.prog.main.scope.names.lookup ("super" : Str)).isSome = false)
    (xc_BadName : K.lookup a_BadName = some (excClassObj nm_BadName q_BadName a_BadName N_BadName bs_BadName bm_BadName true sn_BadName sub_BadName ab_BadName col_BadName dd_BadName e0_BadName e1_BadName e2_BadName e3_BadName e5_BadName "ValueError.__new__"))
    (ref_BadName : PySem.HandSPX.refsVE bm_BadName = true)
    (sa_BadName : PySem.W.findIn K (.ref a_BadName) "__setattr__" = some (some (.builtin "object.__setattr__")))
    (eb_BadName : PySem.W.subIn K (.ref a_BadName) (.type "BaseException") = some true)
    (ty_BadName : PySem.W.typeIn K (.ref a_BadName) = some (.type "type"))
    (kC_BadName : PySem.W.keepIn K (.ref a_BadName) = true)
    (iC_BadName : PySem.W.findIn K (.ref a_BadName) "__init__" = some (some (.ref f_BadName)))
    (tI_BadName : PySem.W.typeIn K (.ref f_BadName) = some (.type "function"))
    (sup_BadName : PySem.W.ks_superIn K a_BadName a_BadName "__init__" = some (some (.builtin "ValueError.__init__")))
    (sv_BadName : PySem.W.subIn K (.ref a_BadName) (.type "ValueError") = some true)
    (mro_BadName : PySem.W.mroIn K a_BadName (.ref a_BadName) = some true)
    (no0_BadName : PySem.W.findIn K (.ref a_BadName) "name" = some none)
    (ga_BadName : PySem.W.findIn K (.ref a_BadName) "__getattribute__" = some (some (.builtin "BaseException.__getattribute__")))
    (gg_BadName : PySem.W.findIn K (.ref a_BadName) "__getattr__" = some none)
    (hd_BadName : PySem.W.hasDictIn K a_BadName = true)
    (hcl_BadName : PySem.W.findIn K (.ref a_BadName) "__class__" = some (some (.builtin "object.__class__")))
    (hn_BadName : PySem.W.specialIn K (.builtin "object.__class__") "__get__" = some (some (.builtin "getset_descriptor.__get__")))
    (ht_BadName : PySem.W.takesIn K (.builtin "object.__class__") = some true)
    (hm_BadName : PySem.W.mroIn K a_BadName (.type "object") = some true)
    (lf_BadName : K.lookup f_BadName = some ⟨oc_BadName, od_BadName, .func (PySem.W.fnX "__init__" "BadName.__init__" (defArgs s_BadName) (defBody s_BadName) (defScope s_BadName) [("__class__", cc_BadName)] .none .none doc_BadName pm_BadName none (.ref cda_BadName) ct_BadName), osl_BadName⟩)
    (cd_BadName : PySem.W.codeIn K (.ref cda_BadName) "BadName.__init__" = true)
    (lc_BadName : K.lookup cda_BadName = some ⟨ccl_BadName, cdd_BadName, .fields vs_BadName, ccs_BadName⟩)
    (v2_BadName : vs_BadName[2]? = some (.str file_BadName tf_BadName))
    (fe_BadName : ((l.prog.main.file : Str) == file_BadName) = true)
    (lcc_BadName : K.lookup cc_BadName = some ⟨cl_BadName, cld_BadName, .cell (some (.ref a_BadName)), csl_BadName⟩)
    (hD_BadName : PySem.W.clsIn K a_BadName = some cdD_BadName)
    (xc_BadPlan : K.lookup a_BadPlan = some (excClassObj nm_BadPlan q_BadPlan a_BadPlan N_BadPlan bs_BadPlan bm_BadPlan true sn_BadPlan sub_BadPlan ab_BadPlan col_BadPlan dd_BadPlan e0_BadPlan e1_BadPlan e2_BadPlan e3_BadPlan e5_BadPlan "ValueError.__new__"))
    (ref_BadPlan : PySem.HandSPX.refsVE bm_BadPlan = true)
    (sa_BadPlan : PySem.W.findIn K (.ref a_BadPlan) "__setattr__" = some (some (.builtin "object.__setattr__")))
    (eb_BadPlan : PySem.W.subIn K (.ref a_BadPlan) (.type "BaseException") = some true)
    (ty_BadPlan : PySem.W.typeIn K (.ref a_BadPlan) = some (.type "type"))
    (kC_BadPlan : PySem.W.keepIn K (.ref a_BadPlan) = true)
    (iC_BadPlan : PySem.W.findIn K (.ref a_BadPlan) "__init__" = some (some (.ref f_BadPlan)))
    (tI_BadPlan : PySem.W.typeIn K (.ref f_BadPlan) = some (.type "function"))
    (sup_BadPlan : PySem.W.ks_superIn K a_BadPlan a_BadPlan "__init__" = some (some (.builtin "ValueError.__init__")))
    (sv_BadPlan : PySem.W.subIn K (.ref a_BadPlan) (.type "ValueError") = some true)
    (mro_BadPlan : PySem.W.mroIn K a_BadPlan (.ref a_BadPlan) = some true)
    (ga_BadPlan : PySem.W.findIn K (.ref a_BadPlan) "__getattribute__" = some (some (.builtin "BaseException.__getattribute__")))
    (gg_BadPlan : PySem.W.findIn K (.ref a_BadPlan) "__getattr__" = some none)
    (hd_BadPlan : PySem.W.hasDictIn K a_BadPlan = true)
    (hcl_BadPlan : PySem.W.findIn K (.ref a_BadPlan) "__class__" = some (some (.builtin "object.__class__")))
    (hn_BadPlan : PySem.W.specialIn K (.builtin "object.__class__") "__get__" = some (some (.builtin "getset_descriptor.__get__")))
    (ht_BadPlan : PySem.W.takesIn K (.builtin "object.__class__") = some true)
    (hm_BadPlan : PySem.W.mroIn K a_BadPlan (.type "object") = some true)
    (lf_BadPlan : K.lookup f_BadPlan = some ⟨oc_BadPlan, od_BadPlan, .func (PySem.W.fnX "__init__" "BadPlan.__init__" (defArgs s_BadPlan) (defBody s_BadPlan) (defScope s_BadPlan) [("__class__", cc_BadPlan)] .none .none doc_BadPlan pm_BadPlan none (.ref cda_BadPlan) ct_BadPlan), osl_BadPlan⟩)
    (cd_BadPlan : PySem.W.codeIn K (.ref cda_BadPlan) "BadPlan.__init__" = true)
    (lc_BadPlan : K.lookup cda_BadPlan = some ⟨ccl_BadPlan, cdd_BadPlan, .fields vs_BadPlan, ccs_BadPlan⟩)
    (v2_BadPlan : vs_BadPlan[2]? = some (.str file_BadPlan tf_BadPlan))
    (fe_BadPlan : ((l.prog.main.file : Str) == file_BadPlan) = true)
    (lcc_BadPlan : K.lookup cc_BadPlan = some ⟨cl_BadPlan, cld_BadPlan, .cell (some (.ref a_BadPlan)), csl_BadPlan⟩)
    (hD_BadPlan : PySem.W.clsIn K a_BadPlan = some cdD_BadPlan)
    : ∃ fd : FuncData, (∀ (s : Shared) (v : Value), BindsTo s fd ⟨[v], []⟩ [("_law_script", v)]) ∧ ∀ base : Heap, K.In base → base.Ns mainGlobals mg → FnOk l.prog w K mg base CX0 60 fa fd ["_law_script"] (spLaw K) := by
  have e := hfa.symm.trans (PySem.W.mg_of X G a_law)
  cases e
  have XK_BadName : ExK K a_BadName f_BadName ["name"] := exk_mk xc_BadName ref_BadName sa_BadName eb_BadName ty_BadName kC_BadName sup_BadName sv_BadName mro_BadName iC_BadName tI_BadName (fun f hf => by simp only [List.mem_cons, List.not_mem_nil, or_false] at hf; subst hf; exact no0_BadName) ga_BadName gg_BadName hd_BadName hcl_BadName hn_BadName ht_BadName hm_BadName
  have XK_BadPlan : ExK K a_BadPlan f_BadPlan [] := exk_mk xc_BadPlan ref_BadPlan sa_BadPlan eb_BadPlan ty_BadPlan kC_BadPlan sup_BadPlan sv_BadPlan mro_BadPlan iC_BadPlan tI_BadPlan (fun f hf => nomatch hf) ga_BadPlan gg_BadPlan hd_BadPlan hcl_BadPlan hn_BadPlan ht_BadPlan hm_BadPlan
  have T : Gs K mg t_LETTERS t_LONGEST_NAME a_DEEDS a_RESERVED a_BadName a_BadPlan a_Plan := { z_all := PySem.W.mg_none_of X G z_all, z_bool := PySem.W.mg_none_of X G z_bool, z_dict := PySem.W.mg_none_of X G z_dict, z_enumerate := PySem.W.mg_none_of X G z_enumerate, z_int := PySem.W.mg_none_of X G z_int, z_isinstance := PySem.W.mg_none_of X G z_isinstance, z_len := PySem.W.mg_none_of X G z_len, z_list := PySem.W.mg_none_of X G z_list, z_property := PySem.W.mg_none_of X G z_property, z_range := PySem.W.mg_none_of X G z_range, z_set := PySem.W.mg_none_of X G z_set, z_str := PySem.W.mg_none_of X G z_str, z_super := PySem.W.mg_none_of X G z_super, z_tuple := PySem.W.mg_none_of X G z_tuple, g_LETTERS := PySem.W.mg_of X G g_LETTERS, g_LONGEST_NAME := PySem.W.mg_of X G g_LONGEST_NAME, g_DEEDS := PySem.W.mg_of X G g_DEEDS, g_RESERVED := PySem.W.mg_of X G g_RESERVED, g_BadName := PySem.W.mg_of X G g_BadName, g_BadPlan := PySem.W.mg_of X G g_BadPlan, g_Plan := PySem.W.mg_of X G g_Plan, q_DEEDS := fun _ => .inr ⟨_, _, _, l_DEEDS, rfl, rfl, (by have e : _ = its_DEEDS.size := v_DEEDS.length.trans Array.length_toList; rw [← e]; decide), v_DEEDS⟩, q_RESERVED := fun _ => .inr ⟨_, _, _, l_RESERVED, rfl, rfl, (by have e : _ = its_RESERVED.size := v_RESERVED.length.trans Array.length_toList; rw [← e]; decide), v_RESERVED⟩, n_BadName := g_BadName, n_BadPlan := g_BadPlan, n_Plan := g_Plan, x_BadName := ⟨XK_BadName.no, XK_BadName.xf, XK_BadName.is⟩, x_BadPlan := ⟨XK_BadPlan.no, XK_BadPlan.xf, XK_BadPlan.is⟩, cl_Plan := ⟨pg_Plan, hx_Plan, po_Plan, st_Plan⟩, rd_Plan := ⟨rr_Plan, rg_Plan⟩, na_Plan_kept := na_Plan_kept, na_Plan_locked := na_Plan_locked, na_Plan_steps := na_Plan_steps }
  have F_is_name := fun_mk (st := s_is_name) l_is_name c_is_name k_is_name
  have b_is_name := F_is_name.binds (ps := ["text"]) fun _ _ _ _ _ _ us hl => match us, hl with | [_], _ => rfl
  have F_check_name := fun_mk (st := s_check_name) l_check_name c_check_name k_check_name
  have b_check_name := F_check_name.binds (ps := ["text"]) fun _ _ _ _ _ _ us hl => match us, hl with | [_], _ => rfl
  have F_looked_at := fun_mk (st := s_looked_at) l_looked_at c_looked_at k_looked_at
  have b_looked_at := F_looked_at.binds (ps := ["steps"]) fun _ _ _ _ _ _ us hl => match us, hl with | [_], _ => rfl
  have F_step_fits := fun_mk (st := s_step_fits) l_step_fits c_step_fits k_step_fits
  have b_step_fits := F_step_fits.binds (ps := ["steps", "at"]) fun _ _ _ _ _ _ us hl => match us, hl with | [_, _], _ => rfl
  have F_steps_fit := fun_mk (st := s_steps_fit) l_steps_fit c_steps_fit k_steps_fit
  have b_steps_fit := F_steps_fit.binds (ps := ["steps"]) fun _ _ _ _ _ _ us hl => match us, hl with | [_], _ => rfl
  have F_keys_fit := fun_mk (st := s_keys_fit) l_keys_fit c_keys_fit k_keys_fit
  have b_keys_fit := F_keys_fit.binds (ps := ["steps", "names"]) fun _ _ _ _ _ _ us hl => match us, hl with | [_, _], _ => rfl
  have F__law_state := fun_mk (st := s__law_state) l__law_state c__law_state k__law_state
  have b__law_state := F__law_state.binds (ps := ["_law_script"]) fun _ _ _ _ _ _ us hl => match us, hl with | [_], _ => rfl
  have F__law_draw := fun_mk (st := s__law_draw) l__law_draw c__law_draw k__law_draw
  have b__law_draw := F__law_draw.binds (ps := ["_law_state_here", "_law_many"]) fun _ _ _ _ _ _ us hl => match us, hl with | [_, _], _ => rfl
  have F__law_mixed := fun_mk (st := s__law_mixed) l__law_mixed c__law_mixed k__law_mixed
  have b__law_mixed := F__law_mixed.binds (ps := ["_law_state_here", "_law_row"]) fun _ _ _ _ _ _ us hl => match us, hl with | [_, _], _ => rfl
  have F__law_names := fun_mk (st := s__law_names) l__law_names c__law_names k__law_names
  have b__law_names := F__law_names.binds (ps := ["_law_state_here", "_law_many"]) fun _ _ _ _ _ _ us hl => match us, hl with | [_, _], _ => rfl
  have F__law_is_int := fun_mk (st := s__law_is_int) l__law_is_int c__law_is_int k__law_is_int
  have b__law_is_int := F__law_is_int.binds (ps := ["_law_thing"]) fun _ _ _ _ _ _ us hl => match us, hl with | [_], _ => rfl
  have F__law_same := fun_mk (st := s__law_same) l__law_same c__law_same k__law_same
  have b__law_same := F__law_same.binds (ps := ["_law_actual", "_law_due"]) fun _ _ _ _ _ _ us hl => match us, hl with | [_, _], _ => rfl
  have F__law_wild_steps := fun_mk (st := s__law_wild_steps) l__law_wild_steps c__law_wild_steps k__law_wild_steps
  have b__law_wild_steps := F__law_wild_steps.binds (ps := ["_law_state_here", "_law_carried"]) fun _ _ _ _ _ _ us hl => match us, hl with | [_, _], _ => rfl
  have F__law_safe_steps := fun_mk (st := s__law_safe_steps) l__law_safe_steps c__law_safe_steps k__law_safe_steps
  have b__law_safe_steps := F__law_safe_steps.binds (ps := ["_law_carried", "_law_rank", "_law_ahead"]) fun _ _ _ _ _ _ us hl => match us, hl with | [_, _, _], _ => rfl
  have F__law_some := fun_mk (st := s__law_some) l__law_some c__law_some k__law_some
  have b__law_some := F__law_some.binds (ps := ["_law_state_here", "_law_row", "_law_share"]) fun _ _ _ _ _ _ us hl => match us, hl with | [_, _, _], _ => rfl
  have F__law_walk := fun_mk (st := s__law_walk) l__law_walk c__law_walk k__law_walk
  have b__law_walk := F__law_walk.binds (ps := ["_law_steps_here"]) fun _ _ _ _ _ _ us hl => match us, hl with | [_], _ => rfl
  have F__law_steps := fun_mk (st := s__law_steps) l__law_steps c__law_steps k__law_steps
  have b__law_steps := F__law_steps.binds (ps := ["_law_state_here", "_law_carried"]) fun _ _ _ _ _ _ us hl => match us, hl with | [_, _], _ => rfl
  have F_Plan__place := fun_mk (st := s_Plan__place) l_Plan__place c_Plan__place k_Plan__place
  have b_Plan__place := F_Plan__place.binds (ps := ["self", "step"]) fun _ _ _ _ _ _ us hl => match us, hl with | [_, _], _ => rfl
  have F_Plan__holds := fun_mk (st := s_Plan__holds) l_Plan__holds c_Plan__holds k_Plan__holds
  have b_Plan__holds := F_Plan__holds.binds (ps := ["self", "key", "step"]) fun _ _ _ _ _ _ us hl => match us, hl with | [_, _, _], _ => rfl
  have F_Plan_pairs := fun_mk (st := s_Plan_pairs) l_Plan_pairs c_Plan_pairs k_Plan_pairs
  have b_Plan_pairs := F_Plan_pairs.binds (ps := ["self"]) fun _ _ _ _ _ _ us hl => match us, hl with | [_], _ => rfl
  have F_Plan___init__ := fundk_mk (st := s_Plan___init__) l_Plan___init__ c_Plan___init__ k_Plan___init__ ek1_Plan___init__ ek2_Plan___init__
  have b_Plan___init__ : Kw2 K _ ["self", "steps", "locked", "kept"] 2 "locked" "kept" (.ref e1_Plan___init__) (.ref e2_Plan___init__) := kw2_mk 2 F_Plan___init__ (fun _ _ _ _ _ _ us _ _ l => match us, l with | [_, _], _ => ⟨_, _, _, _, _, _, rfl, rfl, _, _, _, _, _, _, rfl, rfl, rfl⟩) (fun _ _ _ _ _ _ us _ _ l => match us, l with | [_, _], _ => ⟨_, _, _, _, _, _, rfl, rfl, rfl⟩) (fun _ _ _ _ _ _ us _ _ l => match us, l with | [_, _], _ => ⟨_, _, _, _, _, _, rfl, rfl, rfl⟩) (fun _ _ _ _ _ _ us _ _ l => match us, l with | [_, _], _ => rfl)
  have t1_Plan___init__ : ∀ H, SqT K H e1_Plan___init__ [] := (fun H => .inr ⟨_, _, _, el_1_Plan___init__, rfl, rfl, (by have e : _ = ei1_Plan___init__.size := v_e1_Plan___init__.length.trans Array.length_toList; rw [← e]; decide), v_e1_Plan___init__⟩)
  have t2_Plan___init__ : ∀ H, SqT K H e2_Plan___init__ [] := (fun H => .inr ⟨_, _, _, el_2_Plan___init__, rfl, rfl, (by have e : _ = ei2_Plan___init__.size := v_e2_Plan___init__.length.trans Array.length_toList; rw [← e]; decide), v_e2_Plan___init__⟩)
  have F_Plan_waste := fun_mk (st := s_Plan_waste) l_Plan_waste c_Plan_waste k_Plan_waste
  have b_Plan_waste := F_Plan_waste.binds (ps := ["self"]) fun _ _ _ _ _ _ us hl => match us, hl with | [_], _ => rfl
  have F_law := fun_mk (st := s_law) l_law c_law k_law
  have b_law := F_law.binds (ps := ["_law_script"]) fun _ _ _ _ _ _ us hl => match us, hl with | [_], _ => rfl
  refine ⟨PySem.W.fnOf "law" "law" (defArgs s_law) (defBody s_law) (defScope s_law) .none kV_law dc_law pm_law an_law cd_law ct_law, fun s v => .of_eq rfl, fun base _ _ => ?_⟩
  have C_BadName : CalE l.prog w K mg base 1 "BadName" a_BadName f_BadName _ ["self", "name"] okx_BadName fs_BadName ["name"] := ⟨ok_BadName XK_BadName lf_BadName cd_BadName lc_BadName v2_BadName fe_BadName lcc_BadName hD_BadName (PySem.W.mg_none_of X G z_super) st_any htop, .all fun us hl => (match us, hl with | [_, _], _ => rfl), XK_BadName, PySem.W.mg_of X G g_BadName⟩
  have C_BadPlan : CalE0 l.prog w K mg base 1 "BadPlan" a_BadPlan f_BadPlan _ ["self"] := ⟨ok_BadPlan XK_BadPlan lf_BadPlan cd_BadPlan lc_BadPlan v2_BadPlan fe_BadPlan lcc_BadPlan hD_BadPlan (PySem.W.mg_none_of X G z_super) st_any htop, .all fun us hl => (match us, hl with | [_], _ => rfl), XK_BadPlan, PySem.W.mg_of X G g_BadPlan⟩
  have C_is_name : Cal l.prog w K mg base CX0 1 "is_name" f_is_name _ ["text"] (sp_is_name K) := ⟨ok_is_name F_is_name T, b_is_name, k_is_name, PySem.W.mg_of X G a_is_name⟩
  have C_check_name : Cal l.prog w K mg base (L2.CX l.prog w) 3 "check_name" f_check_name _ ["text"] (sp_check_name K) := ⟨ok_check_name F_check_name T C_is_name C_BadName, b_check_name, k_check_name, PySem.W.mg_of X G a_check_name⟩
  have C_looked_at : Cal l.prog w K mg base CX0 1 "looked_at" f_looked_at _ ["steps"] (sp_looked_at K) := ⟨ok_looked_at F_looked_at T, b_looked_at, k_looked_at, PySem.W.mg_of X G a_looked_at⟩
  have C_step_fits : Cal l.prog w K mg base CX0 1 "step_fits" f_step_fits _ ["steps", "at"] (sp_step_fits K) := ⟨ok_step_fits F_step_fits T, b_step_fits, k_step_fits, PySem.W.mg_of X G a_step_fits⟩
  have C_steps_fit : Cal l.prog w K mg base CX0 2 "steps_fit" f_steps_fit _ ["steps"] (sp_steps_fit K) := ⟨ok_steps_fit F_steps_fit T C_step_fits, b_steps_fit, k_steps_fit, PySem.W.mg_of X G a_steps_fit⟩
  have C_keys_fit : Cal l.prog w K mg base CX0 1 "keys_fit" f_keys_fit _ ["steps", "names"] (sp_keys_fit K) := ⟨ok_keys_fit F_keys_fit T, b_keys_fit, k_keys_fit, PySem.W.mg_of X G a_keys_fit⟩
  have C__law_state : Cal l.prog w K mg base CX0 1 "_law_state" f__law_state _ ["_law_script"] (sp__law_state K) := ⟨ok__law_state F__law_state T, b__law_state, k__law_state, PySem.W.mg_of X G a__law_state⟩
  have C__law_draw : Cal l.prog w K mg base CX0 1 "_law_draw" f__law_draw _ ["_law_state_here", "_law_many"] (sp__law_draw K) := ⟨ok__law_draw F__law_draw T, b__law_draw, k__law_draw, PySem.W.mg_of X G a__law_draw⟩
  have C__law_mixed : Cal l.prog w K mg base CX0 2 "_law_mixed" f__law_mixed _ ["_law_state_here", "_law_row"] (sp__law_mixed K) := ⟨ok__law_mixed F__law_mixed T C__law_draw, b__law_mixed, k__law_mixed, PySem.W.mg_of X G a__law_mixed⟩
  have C__law_names : Cal l.prog w K mg base CX0 2 "_law_names" f__law_names _ ["_law_state_here", "_law_many"] (sp__law_names K) := ⟨ok__law_names F__law_names T C__law_draw, b__law_names, k__law_names, PySem.W.mg_of X G a__law_names⟩
  have C__law_is_int : Cal l.prog w K mg base CX0 1 "_law_is_int" f__law_is_int _ ["_law_thing"] (sp__law_is_int K) := ⟨ok__law_is_int F__law_is_int T, b__law_is_int, k__law_is_int, PySem.W.mg_of X G a__law_is_int⟩
  have C__law_same : Cal l.prog w K mg base CX0 26 "_law_same" f__law_same _ ["_law_actual", "_law_due"] (sp__law_same K) := ⟨ok__law_same F__law_same T C__law_is_int b__law_same k__law_same (PySem.W.mg_of X G a__law_same), b__law_same, k__law_same, PySem.W.mg_of X G a__law_same⟩
  have C__law_wild_steps : Cal l.prog w K mg base CX0 3 "_law_wild_steps" f__law_wild_steps _ ["_law_state_here", "_law_carried"] (sp__law_wild_steps K) := ⟨ok__law_wild_steps F__law_wild_steps T C__law_mixed C__law_draw, b__law_wild_steps, k__law_wild_steps, PySem.W.mg_of X G a__law_wild_steps⟩
  have C__law_safe_steps : Cal l.prog w K mg base CX0 1 "_law_safe_steps" f__law_safe_steps _ ["_law_carried", "_law_rank", "_law_ahead"] (sp__law_safe_steps K) := ⟨ok__law_safe_steps F__law_safe_steps T, b__law_safe_steps, k__law_safe_steps, PySem.W.mg_of X G a__law_safe_steps⟩
  have C__law_some : Cal l.prog w K mg base CX0 2 "_law_some" f__law_some _ ["_law_state_here", "_law_row", "_law_share"] (sp__law_some K) := ⟨ok__law_some F__law_some T C__law_draw, b__law_some, k__law_some, PySem.W.mg_of X G a__law_some⟩
  have C__law_walk : Cal l.prog w K mg base CX0 1 "_law_walk" f__law_walk _ ["_law_steps_here"] (sp__law_walk K) := ⟨ok__law_walk F__law_walk T, b__law_walk, k__law_walk, PySem.W.mg_of X G a__law_walk⟩
  have C__law_steps : Cal l.prog w K mg base CX0 4 "_law_steps" f__law_steps _ ["_law_state_here", "_law_carried"] (sp__law_steps K) := ⟨ok__law_steps F__law_steps T C__law_safe_steps C__law_draw C__law_wild_steps C__law_mixed, b__law_steps, k__law_steps, PySem.W.mg_of X G a__law_steps⟩
  have C_Plan__place : CalM l.prog w K mg base CX0 1 a_Plan "_place" f_Plan__place _ ["self", "step"] (sp_Plan__place K) := ⟨⟨ok_Plan__place F_Plan__place T, b_Plan__place⟩, ⟨pg_Plan, hx_Plan, po_Plan, st_Plan⟩, ⟨fa_Plan__place, fn_Plan__place, k_Plan__place⟩⟩
  have C_Plan__holds : CalM l.prog w K mg base CX0 2 a_Plan "_holds" f_Plan__holds _ ["self", "key", "step"] (sp_Plan__holds K) := ⟨⟨ok_Plan__holds F_Plan__holds T C_Plan__place, b_Plan__holds⟩, ⟨pg_Plan, hx_Plan, po_Plan, st_Plan⟩, ⟨fa_Plan__holds, fn_Plan__holds, k_Plan__holds⟩⟩
  have C_Plan_pairs : CalM l.prog w K mg base CX0 3 a_Plan "pairs" f_Plan_pairs _ ["self"] (sp_Plan_pairs K) := ⟨⟨ok_Plan_pairs F_Plan_pairs T C_Plan__holds, b_Plan_pairs⟩, ⟨pg_Plan, hx_Plan, po_Plan, st_Plan⟩, ⟨fa_Plan_pairs, fn_Plan_pairs, k_Plan_pairs⟩⟩
  have C_Plan___init__ : CalK l.prog w K mg base (L2.CX l.prog w) 4 "Plan" a_Plan f_Plan___init__ _ ["self", "steps", "locked", "kept"] 2 "locked" "kept" e1_Plan___init__ e2_Plan___init__ (sp_Plan___init__ K) := ⟨ok_Plan___init__ F_Plan___init__ T C_check_name C_steps_fit C_keys_fit C_looked_at C_BadPlan, b_Plan___init__, ⟨mi_Plan, fa_Plan___init__, fn_Plan___init__, ko_Plan⟩, PySem.W.mg_of X G g_Plan, t1_Plan___init__, t2_Plan___init__⟩
  have C_Plan_waste : CalP l.prog w K mg base CX0 3 a_Plan p_Plan_waste "waste" f_Plan_waste _ ["self"] (sp_Plan_waste K) := ⟨⟨ok_Plan_waste F_Plan_waste T C_looked_at C_Plan__holds, b_Plan_waste⟩, ⟨pg_Plan, hx_Plan, po_Plan, st_Plan⟩, ⟨pa_Plan_waste, ps_Plan_waste, pt_Plan_waste, ⟨_, pr_Plan_waste⟩⟩⟩
  exact ok_law F_law T C__law_state C__law_names C__law_steps C__law_walk C__law_mixed C__law_same C__law_draw C__law_some C_Plan_pairs C_Plan___init__ C_Plan_waste
theorem walk {l : PySem.W.OpenLaw} {q : Program} {loose : List Str} {XP : (Str → Option Value) → Heap → Prop} {YP : World → Heap → Prop} {d : DefRec} {K : Params → PySem.W.Frag} (hn : l.most = some 63) (hdf : d.params.defaults = [])
    (hY : ∀ (w : World) (h : Heap), YP w h → (K w.params).In h)
    (F : ∀ (w : World) (mg : Str → Option Value) (fa : Addr) (h : Heap), (K w.params).In h → h.Ns mainGlobals mg → mg d.name = some (.ref fa) →
      ∃ fd : FuncData, (∀ (s : Shared) (u : Value), BindsTo s fd ⟨[u], []⟩ [("_law_script", u)]) ∧ ∀ base : Heap, (K w.params).In base → base.Ns mainGlobals mg → FnOk l.prog w (K w.params) mg base CX0 60 fa fd ["_law_script"] (spLaw (K w.params))) :
    PySem.W.WalkO q loose XP YP l.row.toRowW d [] (fun f vs => PySem.call f vs) :=
  L2.walk_of (n := 63) (k := 60) (x := "_law_script") (CX := fun _ => CX0) (sp := fun w => spLaw (K w.params)) hn (by decide) hdf ⟨rfl, by decide, by decide⟩ hY F (fun _ _ a ns hl _ hS => ⟨a, ns, rfl, hS, hl, fun _ => rfl⟩) fun _ _ _ _ _ z => z
end K30
open PySem PySem.W PyProof.Rows
set_option maxRecDepth 100000 in
set_option maxHeartbeats 0 in
theorem PySem.Challenge.cw_elseput_k30_whole_pairs_and_waste_holds : PySem.Challenge.rw_elseput_k30_whole_pairs_and_waste.Holds := by
  w_on; o_law; k_head; (case hw => w_witness2)
  k_fill
  refine K30.walk (l := PySem.Challenge.rw_elseput_k30_whole_pairs_and_waste) rfl rfl (fun w h Y => PySem.W.kIn_of Y) ?F
  case F =>
    intro w mg fa h KX G hmg
    refine' K30.all_mk KX G hmg ?g_Plan ?pg_Plan ?hx_Plan ?po_Plan ?st_Plan ?rr_Plan ?rg_Plan ?mi_Plan ?ko_Plan ?sf_Plan ?na_Plan_kept ?na_Plan_locked ?na_Plan_steps ?a_is_name ?l_is_name ?c_is_name ?k_is_name ?a_check_name ?l_check_name ?c_check_name ?k_check_name ?a_looked_at ?l_looked_at ?c_looked_at ?k_looked_at ?a_step_fits ?l_step_fits ?c_step_fits ?k_step_fits ?a_steps_fit ?l_steps_fit ?c_steps_fit ?k_steps_fit ?a_keys_fit ?l_keys_fit ?c_keys_fit ?k_keys_fit ?a__law_state ?l__law_state ?c__law_state ?k__law_state ?a__law_draw ?l__law_draw ?c__law_draw ?k__law_draw ?a__law_mixed ?l__law_mixed ?c__law_mixed ?k__law_mixed ?a__law_names ?l__law_names ?c__law_names ?k__law_names ?a__law_is_int ?l__law_is_int ?c__law_is_int ?k__law_is_int ?a__law_same ?l__law_same ?c__law_same ?k__law_same ?a__law_wild_steps ?l__law_wild_steps ?c__law_wild_steps ?k__law_wild_steps ?a__law_safe_steps ?l__law_safe_steps ?c__law_safe_steps ?k__law_safe_steps ?a__law_some ?l__law_some ?c__law_some ?k__law_some ?a__law_walk ?l__law_walk ?c__law_walk ?k__law_walk ?a__law_steps ?l__law_steps ?c__law_steps ?k__law_steps ?fa_Plan__place ?fn_Plan__place ?l_Plan__place ?c_Plan__place ?k_Plan__place ?fa_Plan__holds ?fn_Plan__holds ?l_Plan__holds ?c_Plan__holds ?k_Plan__holds ?fa_Plan_pairs ?fn_Plan_pairs ?l_Plan_pairs ?c_Plan_pairs ?k_Plan_pairs ?fa_Plan___init__ ?fn_Plan___init__ ?l_Plan___init__ ?ek1_Plan___init__ ?el_1_Plan___init__ ?v_e1_Plan___init__ ?ek2_Plan___init__ ?el_2_Plan___init__ ?v_e2_Plan___init__ ?c_Plan___init__ ?k_Plan___init__ ?pa_Plan_waste ?ps_Plan_waste ?pt_Plan_waste ?pr_Plan_waste ?l_Plan_waste ?c_Plan_waste ?k_Plan_waste ?a_law ?l_law ?c_law ?k_law ?z_all ?z_bool ?z_dict ?z_enumerate ?z_int ?z_isinstance ?z_len ?z_list ?z_property ?z_range ?z_set ?z_str ?z_super ?z_tuple ?g_LETTERS ?g_LONGEST_NAME ?g_DEEDS ?l_DEEDS ?v_DEEDS ?g_RESERVED ?l_RESERVED ?v_RESERVED ?g_BadName ?g_BadPlan ?st_any ?htop ?xc_BadName ?ref_BadName ?sa_BadName ?eb_BadName ?ty_BadName ?kC_BadName ?iC_BadName ?tI_BadName ?sup_BadName ?sv_BadName ?mro_BadName ?no0_BadName ?ga_BadName ?gg_BadName ?hd_BadName ?hcl_BadName ?hn_BadName ?ht_BadName ?hm_BadName ?lf_BadName ?cd_BadName ?lc_BadName ?v2_BadName ?fe_BadName ?lcc_BadName ?hD_BadName ?xc_BadPlan ?ref_BadPlan ?sa_BadPlan ?eb_BadPlan ?ty_BadPlan ?kC_BadPlan ?iC_BadPlan ?tI_BadPlan ?sup_BadPlan ?sv_BadPlan ?mro_BadPlan ?ga_BadPlan ?gg_BadPlan ?hd_BadPlan ?hcl_BadPlan ?hn_BadPlan ?ht_BadPlan ?hm_BadPlan ?lf_BadPlan ?cd_BadPlan ?lc_BadPlan ?v2_BadPlan ?fe_BadPlan ?lcc_BadPlan ?hD_BadPlan
    (case g_Plan => k_is)
    (case pg_Plan => k_is)
    (case hx_Plan => k_is)
    (case po_Plan => k_is)
    (case st_Plan => k_is)
    (case rr_Plan => k_is)
    (case rg_Plan => k_is)
    (case mi_Plan => k_is)
    (case ko_Plan => k_is)
    (case sf_Plan => k_is)
    (case na_Plan_kept => k_is)
    (case na_Plan_locked => k_is)
    (case na_Plan_steps => k_is)
    (case a_is_name => k_is)
    (case l_is_name => k_is)
    (case c_is_name => k_is)
    (case k_is_name => k_is)
    (case a_check_name => k_is)
    (case l_check_name => k_is)
    (case c_check_name => k_is)
    (case k_check_name => k_is)
    (case a_looked_at => k_is)
    (case l_looked_at => k_is)
    (case c_looked_at => k_is)
    (case k_looked_at => k_is)
    (case a_step_fits => k_is)
    (case l_step_fits => k_is)
    (case c_step_fits => k_is)
    (case k_step_fits => k_is)
    (case a_steps_fit => k_is)
    (case l_steps_fit => k_is)
    (case c_steps_fit => k_is)
    (case k_steps_fit => k_is)
    (case a_keys_fit => k_is)
    (case l_keys_fit => k_is)
    (case c_keys_fit => k_is)
    (case k_keys_fit => k_is)
    (case a__law_state => k_is)
    (case l__law_state => k_is)
    (case c__law_state => k_is)
    (case k__law_state => k_is)
    (case a__law_draw => k_is)
    (case l__law_draw => k_is)
    (case c__law_draw => k_is)
    (case k__law_draw => k_is)
    (case a__law_mixed => k_is)
    (case l__law_mixed => k_is)
    (case c__law_mixed => k_is)
    (case k__law_mixed => k_is)
    (case a__law_names => k_is)
    (case l__law_names => k_is)
    (case c__law_names => k_is)
    (case k__law_names => k_is)
    (case a__law_is_int => k_is)
    (case l__law_is_int => k_is)
    (case c__law_is_int => k_is)
    (case k__law_is_int => k_is)
    (case a__law_same => k_is)
    (case l__law_same => k_is)
    (case c__law_same => k_is)
    (case k__law_same => k_is)
    (case a__law_wild_steps => k_is)
    (case l__law_wild_steps => k_is)
    (case c__law_wild_steps => k_is)
    (case k__law_wild_steps => k_is)
    (case a__law_safe_steps => k_is)
    (case l__law_safe_steps => k_is)
    (case c__law_safe_steps => k_is)
    (case k__law_safe_steps => k_is)
    (case a__law_some => k_is)
    (case l__law_some => k_is)
    (case c__law_some => k_is)
    (case k__law_some => k_is)
    (case a__law_walk => k_is)
    (case l__law_walk => k_is)
    (case c__law_walk => k_is)
    (case k__law_walk => k_is)
    (case a__law_steps => k_is)
    (case l__law_steps => k_is)
    (case c__law_steps => k_is)
    (case k__law_steps => k_is)
    (case fa_Plan__place => k_is)
    (case fn_Plan__place => k_is)
    (case l_Plan__place => k_is)
    (case c_Plan__place => k_is)
    (case k_Plan__place => k_is)
    (case fa_Plan__holds => k_is)
    (case fn_Plan__holds => k_is)
    (case l_Plan__holds => k_is)
    (case c_Plan__holds => k_is)
    (case k_Plan__holds => k_is)
    (case fa_Plan_pairs => k_is)
    (case fn_Plan_pairs => k_is)
    (case l_Plan_pairs => k_is)
    (case c_Plan_pairs => k_is)
    (case k_Plan_pairs => k_is)
    (case fa_Plan___init__ => k_is)
    (case fn_Plan___init__ => k_is)
    (case l_Plan___init__ => k_is)
    (case ek1_Plan___init__ => k_is)
    (case el_1_Plan___init__ => k_is)
    (case v_e1_Plan___init__ => (repeat' first | exact .nil | refine .cons ⟨_, rfl⟩ ?_))
    (case ek2_Plan___init__ => k_is)
    (case el_2_Plan___init__ => k_is)
    (case v_e2_Plan___init__ => (repeat' first | exact .nil | refine .cons ⟨_, rfl⟩ ?_))
    (case c_Plan___init__ => k_is)
    (case k_Plan___init__ => k_is)
    (case pa_Plan_waste => k_is)
    (case ps_Plan_waste => k_is)
    (case pt_Plan_waste => k_is)
    (case pr_Plan_waste => k_is)
    (case l_Plan_waste => k_is)
    (case c_Plan_waste => k_is)
    (case k_Plan_waste => k_is)
    (case a_law => k_is)
    (case l_law => k_is)
    (case c_law => k_is)
    (case k_law => k_is)
    (case z_all => k_is)
    (case z_bool => k_is)
    (case z_dict => k_is)
    (case z_enumerate => k_is)
    (case z_int => k_is)
    (case z_isinstance => k_is)
    (case z_len => k_is)
    (case z_list => k_is)
    (case z_property => k_is)
    (case z_range => k_is)
    (case z_set => k_is)
    (case z_str => k_is)
    (case z_super => k_is)
    (case z_tuple => k_is)
    (case g_LETTERS => k_is)
    (case g_LONGEST_NAME => k_is)
    (case g_DEEDS => k_is)
    (case l_DEEDS => k_is)
    (case v_DEEDS => (repeat' first | exact .nil | refine .cons ⟨_, rfl⟩ ?_))
    (case g_RESERVED => k_is)
    (case l_RESERVED => k_is)
    (case v_RESERVED => (repeat' first | exact .nil | refine .cons ⟨_, rfl⟩ ?_))
    (case g_BadName => k_is)
    (case g_BadPlan => k_is)
    (case st_any => k_is)
    (case htop => first | rfl | decide +kernel | k_is)
    (case xc_BadName => k_is)
    (case ref_BadName => first | rfl | decide +kernel | k_is)
    (case sa_BadName => k_is)
    (case eb_BadName => k_is)
    (case ty_BadName => k_is)
    (case kC_BadName => k_is)
    (case iC_BadName => k_is)
    (case tI_BadName => k_is)
    (case sup_BadName => ks_is)
    (case sv_BadName => k_is)
    (case mro_BadName => k_is)
    (case no0_BadName => k_is)
    (case ga_BadName => k_is)
    (case gg_BadName => k_is)
    (case hd_BadName => k_is)
    (case hcl_BadName => k_is)
    (case hn_BadName => k_is)
    (case ht_BadName => k_is)
    (case hm_BadName => k_is)
    (case lf_BadName => k_is)
    (case cd_BadName => k_is)
    (case lc_BadName => k_is)
    (case v2_BadName => first | rfl | decide +kernel | k_is)
    (case fe_BadName => first | rfl | decide +kernel | k_is)
    (case lcc_BadName => k_is)
    (case hD_BadName => k_is)
    (case xc_BadPlan => k_is)
    (case ref_BadPlan => first | rfl | decide +kernel | k_is)
    (case sa_BadPlan => k_is)
    (case eb_BadPlan => k_is)
    (case ty_BadPlan => k_is)
    (case kC_BadPlan => k_is)
    (case iC_BadPlan => k_is)
    (case tI_BadPlan => k_is)
    (case sup_BadPlan => ks_is)
    (case sv_BadPlan => k_is)
    (case mro_BadPlan => k_is)
    (case ga_BadPlan => k_is)
    (case gg_BadPlan => k_is)
    (case hd_BadPlan => k_is)
    (case hcl_BadPlan => k_is)
    (case hn_BadPlan => k_is)
    (case ht_BadPlan => k_is)
    (case hm_BadPlan => k_is)
    (case lf_BadPlan => k_is)
    (case cd_BadPlan => k_is)
    (case lc_BadPlan => k_is)
    (case v2_BadPlan => first | rfl | decide +kernel | k_is)
    (case fe_BadPlan => first | rfl | decide +kernel | k_is)
    (case lcc_BadPlan => k_is)
    (case hD_BadPlan => k_is)
