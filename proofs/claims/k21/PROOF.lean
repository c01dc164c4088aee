import PyProof.Rows.All
import Wide.All
import OpenK.AllK
import Wide.FinOn
import HandS.ForMost
import HandS.Wide
import HandS.TupAny
import HandS.IsInst
import HandS.Flow
import HandS.Evl
import HandS.Walk
import HandS.ExcInit
import HandS.Nested
import HandS.FStr
import HandS.TryOnly
import HandS.TryMany
import HandS.ExcIs
import HandS.ExcField
import HandS.WordsExc
import HandS.RaiseMore
import KE.KExcSuper
import PyProof.StrOps2
import PyProof.Rows.ReprOcc
import PyProof.Rows.StrDigits
import PyProof.Rows.StrJoinMade
import HandS.ClsMeth
import HandS.Star
import HandS.Property
import HandS.New
import HandS.ExcOwn
import HandS.More
import HandS.Dict
import HandS.Small
import KE.KOpsOwn
import OpenK.KMeth
import KE.KExcIs
import HandS.Defaults
import HandS.Text
import HandS.Strs
import HandS.Conv
import HandS.Finally
import PyProof.StrLawsRepr
import HandS.TupSets
import KE.Datum
import HandS.MakeKwOnly
import HandS.IterVal
import KE.KOwnIter
import HandS.Iter
import KE.GoesMore
import KE.KRevSl
import HandS.SetFor
import KE.SortData
import KE.DataCmp
import HandS.SetKeys
import HandS.ListItems
import HandS.DictTup
import PyProof.DictMoreH
import HandS.TupMul
import HandS.DictComp
import HandS.DictEq
import PyProof.SeqIndex
import KE.OsRunLaw
import HandS.Style
import PySem.Challenge.RW_elseput_k21_rows_of_a_table
set_option Elab.async false
set_option linter.all false
set_option maxRecDepth 100000
/-! Own words over the hand layer: readings that compute on the values' shapes. -/
namespace El
open PySem PySem.Spec PyProof.Rows L2
section
variable {X : Cx}

theorem wk {e : Expr} {t t' : TE} (h : PE X e t) (i : ∀ σ H Q, t' σ H Q → t σ H Q) : PE X e t' :=
  ⟨fun pins s σ H Q I q => h.run pins s σ H Q I (i σ H Q q)⟩
theorem opwk {f : Value → Value → Sem Value} {r r' : R2} (h : OpR X f r) (i : ∀ x y H Q, r' x y H Q → r x y H Q) : OpR X f r' :=
  fun pins s σ H x y v u Q I rx ry q => h pins s σ H x y v u Q I rx ry (i x y H Q q)
theorem unwk {f : Value → Sem Value} {r r' : V → Hp → VK → Prop} (h : UnR X f r) (i : ∀ x H Q, r' x H Q → r x H Q) : UnR X f r' :=
  fun pins s σ H x v Q I rx q => h pins s σ H x v Q I rx (i x H Q q)
theorem cwk {f : Value} {r r' : List V → Hp → VK → Prop} (h : CallR X f r) (i : ∀ x H Q, r' x H Q → r x H Q) : CallR X f r' :=
  fun pins s σ H x v Q I rx q => h pins s σ H x v Q I rx (i x H Q q)
theorem ixwk {r r' : R2} (h : IxR X r) (i : ∀ x y H Q, r' x y H Q → r x y H Q) : IxR X r' :=
  fun a b pins s σ H x y v u Q I rx ry q => h a b pins s σ H x y v u Q I rx ry (i x y H Q q)
theorem slwk {r r' : V → Option Int → Option Int → Hp → VK → Prop} (h : SlR X r) (i : ∀ x a b H Q, r' x a b H Q → r x a b H Q) : SlR X r' :=
  fun pins s σ H x v vl vu lo hi sl Q I rx hs pl pu q => h pins s σ H x v vl vu lo hi sl Q I rx hs pl pu (i x lo hi H Q q)

/-! ### a name in its slot -/
def tV (i : Nat) : TE := fun σ H Q => match σ[i]? with | some (some v) => Q v H | _ => False
theorem v_ (i : Nat) {x : Str} {pos : Pos} (hN : X.N[i]? = some x := by rfl) (hv : Vis X.env.scope x := by first | exact Or.inl rfl | exact Or.inr (Or.inl rfl) | exact Or.inr (Or.inr rfl)) (hd : (x == ("__debug__" : Str)) = false := by decide)
    (hcd : (x == ("__classdict__" : Str)) = false := by decide) : PE X (.Name x pos) (tV i) :=
  wk (pv i hN hv hd hcd) fun σ H Q q => by
    unfold tV at q
    split at q
    · rename_i v e; exact ⟨v, e, q⟩
    · exact q.elim

/-! ### operators -/
def addM (K : PySem.W.Frag) : R2 := fun x y H Q => match x, y with
  | .int i, .int j => Q (.int (i + j)) H
  | .str i, .str j => i.length + j.length ≤ sizeLine ∧ Q (.str (i ++ j)) H
  | .ref a, .ref b => (∃ xs zs, H a = some (.lst xs) ∧ H b = some (.lst zs) ∧ xs.length + zs.length ≤ sizeLine ∧ ∀ p, H p = none → Q (.ref p) (upd H p (.lst (xs ++ zs)))) ∨ rCatT K (.ref a) (.ref b) H Q
  | _, _ => False
theorem op_addM : OpR X (binaryOp .Add) (addM X.K) := opwk (OpR.or op_add (OpR.or op_add_str (OpR.or op_cat op_catT))) fun x y H Q q => by
  unfold addM at q
  split at q
  · exact .inl ⟨_, _, rfl, rfl, q⟩
  · exact .inr (.inl ⟨_, _, rfl, rfl, q⟩)
  · rcases q with ⟨xs, zs, h1, h2, h3, h4⟩ | q
    · exact .inr (.inr (.inl ⟨_, _, xs, zs, rfl, rfl, h1, h2, h3, h4⟩))
    · exact .inr (.inr (.inr q))
  · exact q.elim
def subM : R2 := fun x y H Q => match x, y with
  | .int i, .int j => Q (.int (i - j)) H
  | _, _ => False
theorem op_subM : OpR X (binaryOp .Sub) subM := opwk op_sub fun x y H Q q => by
  unfold subM at q
  split at q
  · exact ⟨_, _, rfl, rfl, q⟩
  · exact q.elim
def mulM : R2 := fun x y H Q => match x, y with
  | .int i, .int j => (CMul i j ∨ CMulW i j) ∧ Q (.int (i * j)) H
  | .ref l, .int k => ∃ xs, H l = some (.lst xs) ∧ (-(2 ^ 63) ≤ k ∧ k < 2 ^ 63) ∧ xs.length * k.toNat ≤ sizeLine ∧ ∀ p, H p = none → Q (.ref p) (upd H p (.lst (List.replicate k.toNat xs).flatten))
  | _, _ => False
theorem op_mulM : OpR X (binaryOp .Mult) mulM := opwk (OpR.or op_mul (OpR.or op_mulW op_rep)) fun x y H Q q => by
  unfold mulM at q
  split at q
  · obtain ⟨h | h, q⟩ := q
    · exact .inl ⟨_, _, rfl, rfl, h, q⟩
    · exact .inr (.inl ⟨_, _, rfl, rfl, h, q⟩)
  · obtain ⟨xs, h1, h2, h3, h4⟩ := q
    exact .inr (.inr ⟨_, _, xs, rfl, rfl, h1, h2.1, h2.2, h3, h4⟩)
  · exact q.elim
def divM : R2 := fun x y H Q => match x, y with
  | .int i, .int j => (CDiv i j ∨ CDivW i j) ∧ Q (.int (i / j)) H
  | _, _ => False
theorem op_divM : OpR X (binaryOp .FloorDiv) divM := opwk (OpR.or op_fdiv op_fdivW) fun x y H Q q => by
  unfold divM at q
  split at q
  · obtain ⟨h | h, q⟩ := q
    · exact .inl ⟨_, _, rfl, rfl, h, q⟩
    · exact .inr ⟨_, _, rfl, rfl, h, q⟩
  · exact q.elim
def modM : R2 := fun x y H Q => match x, y with
  | .int i, .int j => 0 < j ∧ Q (.int (i % j)) H
  | _, _ => False
theorem op_modM : OpR X (binaryOp .Mod) modM := opwk op_mod fun x y H Q q => by
  unfold modM at q
  split at q
  · exact ⟨_, _, rfl, rfl, q.1, q.2⟩
  · exact q.elim
def powM : R2 := fun x y H Q => match x, y with
  | .int i, .int j => CPow i j ∧ Q (.int (i ^ j.toNat)) H
  | _, _ => False
theorem op_powM : OpR X (binaryOp .Pow) powM := opwk op_pow fun x y H Q q => by
  unfold powM at q
  split at q
  · exact ⟨_, _, rfl, rfl, q.1, q.2⟩
  · exact q.elim
def negM : V → Hp → VK → Prop := fun x H Q => match x with
  | .int i => Q (.int (-i)) H
  | _ => False
theorem un_negM : UnR X (unaryOp .USub) negM := unwk un_neg fun x H Q q => by
  unfold negM at q
  split at q
  · exact ⟨_, rfl, q⟩
  · exact q.elim

/-! ### comparisons -/
def cmpM (f : Int → Int → Bool) : R2 := fun x y H Q => match x, y with
  | .int i, .int j => Q (.bl (f i j)) H
  | _, _ => False
theorem cmpwk {f : Int → Int → Bool} {g : Value → Value → Sem Value} (h : OpR X g (rI0 fun i j => .bl (f i j))) : OpR X g (cmpM f) := opwk h fun x y H Q q => by
  unfold cmpM at q
  split at q
  · exact ⟨_, _, rfl, rfl, q⟩
  · exact q.elim
theorem op_ltM : OpR X (compareOp .Lt) (cmpM fun i j => decide (i < j)) := cmpwk op_lt
theorem op_leM : OpR X (compareOp .LtE) (cmpM fun i j => decide (i ≤ j)) := cmpwk op_le
theorem op_gtM : OpR X (compareOp .Gt) (cmpM fun i j => decide (j < i)) := cmpwk op_gt
theorem op_geM : OpR X (compareOp .GtE) (cmpM fun i j => decide (j ≤ i)) := cmpwk op_ge
/-- ==: of plain values by the values; else of data -/
def eqM (K : PySem.W.Frag) : R2 := fun x y H Q => match x, y with
  | .int i, .int j => Q (.bl (decide (i = j))) H
  | .str i, .str j => Q (.bl (decide (i = j))) H
  | .bl i, .bl j => Q (.bl (decide (i = j))) H
  | .non, .non => Q (.bl true) H
  | .non, .int _ => Q (.bl false) H
  | .int _, .non => Q (.bl false) H
  | .non, .str _ => Q (.bl false) H
  | .str _, .non => Q (.bl false) H
  | .non, .bl _ => Q (.bl false) H
  | .bl _, .non => Q (.bl false) H
  | .int _, .str _ => Q (.bl false) H
  | .str _, .int _ => Q (.bl false) H
  | .bl _, .str _ => Q (.bl false) H
  | .str _, .bl _ => Q (.bl false) H
  | x, y => rEqD K x y H Q
theorem op_eqM (hu : X.A.units + 64 < cLine) : OpR X (compareOp .Eq) (eqM X.K) := opwk (OpR.or op_eq (op_eqD hu)) fun x y H Q q => by
  unfold eqM at q
  split at q
  all_goals first
    | exact .inl ⟨rfl, by simpa using q⟩
    | exact .inr q
def neM (K : PySem.W.Frag) : R2 := fun x y H Q => match x, y with
  | .int i, .int j => Q (.bl (!decide (i = j))) H
  | .str i, .str j => Q (.bl (!decide (i = j))) H
  | .bl i, .bl j => Q (.bl (!decide (i = j))) H
  | .non, .non => Q (.bl false) H
  | .non, .int _ => Q (.bl true) H
  | .int _, .non => Q (.bl true) H
  | .non, .str _ => Q (.bl true) H
  | .str _, .non => Q (.bl true) H
  | .non, .bl _ => Q (.bl true) H
  | .bl _, .non => Q (.bl true) H
  | .int _, .str _ => Q (.bl true) H
  | .str _, .int _ => Q (.bl true) H
  | .bl _, .str _ => Q (.bl true) H
  | .str _, .bl _ => Q (.bl true) H
  | x, y => rNeD K x y H Q
theorem op_neM (hu : X.A.units + 64 < cLine) : OpR X (compareOp .NotEq) (neM X.K) := opwk (OpR.or op_ne (op_neD hu)) fun x y H Q q => by
  unfold neM at q
  split at q
  all_goals first
    | exact .inl ⟨rfl, by simpa using q⟩
    | exact .inr q
/-- is, is not: None, True, False -/
def isV (x y : V) : Bool := match x, y with
  | .non, .non => true
  | .bl a, .bl b => a == b
  | _, _ => false
def litV (y : V) : Bool := match y with | .non => true | .bl _ => true | _ => false
def isM : R2 := fun x y H Q => match litV y with | true => Q (.bl (isV x y)) H | false => False
def notM : R2 := fun x y H Q => match litV y with | true => Q (.bl (!isV x y)) H | false => False
theorem lit_cases {y : V} (h : litV y = true) : y = .non ∨ ∃ b, y = .bl b := by
  cases y with
  | non => exact .inl rfl
  | bl b => exact .inr ⟨b, rfl⟩
  | _ => exact absurd (show false = true from h) (by decide)
theorem is_other {A : Around} {E : Value → Shared → Prop} {M : Model} {x : V} {v : Value} {b : Bool} {s : Shared} {Q : Value → Shared → Prop} (rx : RelV x v) (h : Q (.bool (isV x (.bl b))) s) : wpAny M A (compareOp .Is v (.bool b)) Q E s := by
  cases x with
  | bl a =>
    cases rx
    by_cases e : a = b
    · subst e; exact wpAny_is_self rfl (by simpa [isV] using h)
    · exact wpAny_is_other rfl (fun z => e (Value.bool.inj z)) (by rw [show isV (.bl a) (.bl b) = false from beq_eq_false_iff_ne.mpr e] at h; exact h)
  | non => cases rx; exact wpAny_is_other rfl (by intro z; cases z) h
  | int i => obtain ⟨t, rfl⟩ := rx; exact wpAny_is_other rfl (by intro z; cases z) h
  | str i => obtain ⟨t, rfl⟩ := rx; exact wpAny_is_other rfl (by intro z; cases z) h
  | byt i => obtain ⟨t, rfl⟩ := rx; exact wpAny_is_other rfl (by intro z; cases z) h
  | flt i => obtain ⟨t, rfl⟩ := rx; exact wpAny_is_other rfl (by intro z; cases z) h
  | ref a => cases rx; exact wpAny_is_other rfl (by intro z; cases z) h
  | ty n => cases rx; exact wpAny_is_other rfl (by intro z; cases z) h
theorem isnot_other {A : Around} {E : Value → Shared → Prop} {M : Model} {x : V} {v : Value} {b : Bool} {s : Shared} {Q : Value → Shared → Prop} (rx : RelV x v) (h : Q (.bool (!isV x (.bl b))) s) : wpAny M A (compareOp .IsNot v (.bool b)) Q E s := by
  cases x with
  | bl a =>
    cases rx
    by_cases e : a = b
    · subst e; exact wpAny_isNot_self rfl (by simpa [isV] using h)
    · exact wpAny_isNot_other rfl (fun z => e (Value.bool.inj z)) (by rw [show isV (.bl a) (.bl b) = false from beq_eq_false_iff_ne.mpr e] at h; exact h)
  | non => cases rx; exact wpAny_isNot_other rfl (by intro z; cases z) h
  | int i => obtain ⟨t, rfl⟩ := rx; exact wpAny_isNot_other rfl (by intro z; cases z) h
  | str i => obtain ⟨t, rfl⟩ := rx; exact wpAny_isNot_other rfl (by intro z; cases z) h
  | byt i => obtain ⟨t, rfl⟩ := rx; exact wpAny_isNot_other rfl (by intro z; cases z) h
  | flt i => obtain ⟨t, rfl⟩ := rx; exact wpAny_isNot_other rfl (by intro z; cases z) h
  | ref a => cases rx; exact wpAny_isNot_other rfl (by intro z; cases z) h
  | ty n => cases rx; exact wpAny_isNot_other rfl (by intro z; cases z) h
theorem isV_non (x : V) : isV x .non = decide (x = .non) := by cases x <;> rfl
theorem op_isM : OpR X (compareOp .Is) isM := by
  intro pins s σ H x y v u Q I rx ry q
  unfold isM at q
  split at q
  · rename_i e
    rcases lit_cases e with rfl | ⟨b, rfl⟩
    · exact op_isN pins s σ H x .non v u Q I rx ry ⟨rfl, by rw [← isV_non]; exact q⟩
    · cases ry
      exact is_other rx ⟨.bl _, H, I, rfl, q⟩
  · exact q.elim
theorem op_isNotM : OpR X (compareOp .IsNot) notM := by
  intro pins s σ H x y v u Q I rx ry q
  unfold notM at q
  split at q
  · rename_i e
    rcases lit_cases e with rfl | ⟨b, rfl⟩
    · exact op_notN pins s σ H x .non v u Q I rx ry ⟨rfl, by rw [← isV_non]; exact q⟩
    · cases ry
      exact isnot_other rx ⟨.bl _, H, I, rfl, q⟩
  · exact q.elim
/-- in: a list or a tuple of plain things; a sign in a text -/
def inM (K : PySem.W.Frag) (neg : Bool) : R2 := fun x y H Q => match y with
  | .str z => ∃ c : Nat, x = .str ⟨#[c]⟩ ∧ Q (.bl (if neg then !decide (c ∈ z.cps.toList) else decide (c ∈ z.cps.toList))) H
  | .ref p => ∃ xs, (SqL K H p xs ∨ SqT K H p xs) ∧ flatV x = true ∧ xs.all flatV = true ∧ Q (.bl (if neg then !inV x xs else inV x xs)) H
  | _ => False
theorem op_inM : OpR X (compareOp .In) (inM X.K false) := opwk (OpR.or op_in_sign op_in_seq) fun x y H Q q => by
  unfold inM at q
  split at q
  · obtain ⟨c, e, q⟩ := q
    exact .inl ⟨c, _, e, rfl, q⟩
  · obtain ⟨xs, h1, h2, h3, q⟩ := q
    exact .inr ⟨_, xs, rfl, h1, h2, h3, q⟩
  · exact q.elim
theorem op_notInM : OpR X (compareOp .NotIn) (inM X.K true) := opwk (OpR.or op_notIn_sign op_notIn_seq) fun x y H Q q => by
  unfold inM at q
  split at q
  · obtain ⟨c, e, q⟩ := q
    exact .inl ⟨c, _, e, rfl, q⟩
  · obtain ⟨xs, h1, h2, h3, q⟩ := q
    exact .inr ⟨_, xs, rfl, h1, h2, h3, q⟩
  · exact q.elim

/-! ### tests -/
variable {a b : Expr} {rest : List Expr} {ta tb : TE} {pos : Pos}
def tTs (t : TE) : TT := fun σ H Q => t σ H fun x H' => match x with | .bl k => Q k H' | _ => False
theorem pt_c {op : CmpOp} {r : R2} (ho : OpR X (compareOp op) r) (ha : PE X a ta) (hb : PE X b tb) (hm : behindInMarks op b = false := by first | exact nomark _ | rfl) : PT X (.Compare a [op] [b] pos) (tTs (tOp r ta tb)) := by
  refine ⟨fun pins s σ H Q I h => ?_⟩
  refine wpAny_isTrue_Compare1 (thn (ha.run pins s σ H _ I h) fun v s1 ⟨x, H1, I1, r1, q1⟩ => thn (hb.run pins s1 σ H1 _ I1 q1) fun u s2 ⟨y, H2, I2, r2, q2⟩ =>
    thn (ho pins s2 σ H2 x y v u _ I2 r1 r2 q2) fun c s3 ⟨z, H3, I3, r3, q3⟩ => ?_) hm
  cases z with
  | bl k => cases r3; exact wpAny_truthy_bool ⟨H3, I3, q3⟩
  | _ => exact (show False from q3).elim
theorem pe_c {op : CmpOp} {r : R2} (ho : OpR X (compareOp op) r) (ha : PE X a ta) (hb : PE X b tb) (hm : behindInMarks op b = false := by first | exact nomark _ | rfl) : PE X (.Compare a [op] [b] pos) (tOp r ta tb) := pe_cmpR ho ha hb hm
/-- any value's truth -/
def tTr (K : PySem.W.Frag) (t : TE) : TT := fun σ H Q => t σ H fun x H' => match x with
  | .bl k => Q k H'
  | .non => Q false H'
  | .int i => Q (i != 0) H'
  | .str y => y.length ≤ sizeLine ∧ Q ((y.length : Int) != 0) H'
  | .ref p => (∃ xs, SqL K H' p xs ∧ Q (!xs.isEmpty) H') ∨ (∃ xs, SqT K H' p xs ∧ Q (!xs.isEmpty) H') ∨ ∃ kvs, H' p = some (.dK kvs) ∧ Q (!kvs.isEmpty) H'
  | _ => False
theorem pt_tr (ha : PE X a ta) (he : ∀ whole, isTrue a X.env whole = (do let v ← whole; standAt a.pos; holding [v] (truthy v)) := by intro _; rfl) : PT X a (tTr X.K ta) := by
  refine ⟨fun pins s σ H Q I h => ?_⟩
  refine isTrue_plain (thn (ha.run pins s σ H _ I h) fun v s1 ⟨x, H1, I1, r1, q1⟩ => tru_ok pins s1 σ H1 x v Q I1 r1 ?_) (he _)
  cases x with
  | bl k => exact ⟨k, rfl, q1⟩
  | non => exact ⟨false, rfl, q1⟩
  | int i => exact ⟨_, rfl, q1⟩
  | str y => exact ⟨_, ⟨q1.1, rfl⟩, q1.2⟩
  | ref p =>
    rcases (show (∃ xs, SqL X.K H1 p xs ∧ Q (!xs.isEmpty) H1) ∨ (∃ xs, SqT X.K H1 p xs ∧ Q (!xs.isEmpty) H1) ∨ ∃ kvs, H1 p = some (.dK kvs) ∧ Q (!kvs.isEmpty) H1 from q1) with ⟨xs, h, q⟩ | ⟨xs, h, q⟩ | ⟨xs, h, q⟩
    · exact ⟨_, .inl ⟨xs, h, rfl⟩, q⟩
    · exact ⟨_, .inr (.inl ⟨xs, h, rfl⟩), q⟩
    · exact ⟨_, .inr (.inr ⟨xs, h, rfl⟩), q⟩
  | _ => exact (show False from q1).elim
def tAndM (ta tb : TE) : TE := fun σ H Q => ta σ H fun x H1 => match x with | .bl c => (if c = true then tb σ H1 Q else Q (.bl false) H1) | _ => False
def tOrM (ta tb : TE) : TE := fun σ H Q => ta σ H fun x H1 => match x with | .bl c => (if c = true then Q (.bl true) H1 else tb σ H1 Q) | _ => False
def tNotM (ta : TE) : TE := fun σ H Q => ta σ H fun x H1 => match x with | .bl c => Q (.bl (!c)) H1 | _ => False
theorem pe_andM (ha : PE X a ta) (hb : PE X (.BoolOp .And (b :: rest) pos) tb) : PE X (.BoolOp .And (a :: b :: rest) pos) (tAndM ta tb) := by
  refine ⟨fun pins s σ H Q I h => ?_⟩
  refine BoolOp_and (thn (ha.run pins s σ H _ I h) fun v s1 ⟨x, H1, I1, r1, q1⟩ => ?_)
  cases x with
  | bl c =>
    cases r1
    refine wpAny_truthy_bool ?_
    cases c with
    | true => exact hb.run pins s1 σ H1 Q I1 q1
    | false => exact ⟨.bl false, H1, I1, rfl, q1⟩
  | _ => exact (show False from q1).elim
theorem pe_orM (ha : PE X a ta) (hb : PE X (.BoolOp .Or (b :: rest) pos) tb) : PE X (.BoolOp .Or (a :: b :: rest) pos) (tOrM ta tb) := by
  refine ⟨fun pins s σ H Q I h => ?_⟩
  refine BoolOp_or (thn (ha.run pins s σ H _ I h) fun v s1 ⟨x, H1, I1, r1, q1⟩ => ?_)
  cases x with
  | bl c =>
    cases r1
    refine wpAny_truthy_bool ?_
    cases c with
    | false => exact hb.run pins s1 σ H1 Q I1 q1
    | true => exact ⟨.bl true, H1, I1, rfl, q1⟩
  | _ => exact (show False from q1).elim
theorem pe_notM (ha : PE X a ta) : PE X (.UnaryOp .Not a pos) (tNotM ta) := by
  refine ⟨fun pins s σ H Q I h => ?_⟩
  refine UnaryOp_ (thn (ha.run pins s σ H _ I h) fun v s1 ⟨x, H1, I1, r1, q1⟩ => ?_)
  cases x with
  | bl c => cases r1; exact not_of (wpAny_truthy_bool ⟨.bl (!c), H1, I1, rfl, q1⟩)
  | _ => exact (show False from q1).elim

/-! ### subscripts, slices, calls of built-ins -/
def ixM (K : PySem.W.Frag) : R2 := fun x y H Q => match x, y with
  | .str z, .int i => z.length ≤ sizeLine ∧ ∃ c, atI z.cps.toList i = some c ∧ Q (.str ⟨#[c]⟩) H
  | .ref p, .int i => ∃ xs, (SqL K H p xs ∨ SqT K H p xs) ∧ ∃ v, atI xs i = some v ∧ Q v H
  | _, _ => False
theorem ix_M : IxR X (ixM X.K) := ixwk ix_seq fun x y H Q q => by
  unfold ixM at q
  split at q
  · obtain ⟨h, c, e, q⟩ := q
    exact .inr (.inr ⟨_, _, c, rfl, rfl, h, e, q⟩)
  · obtain ⟨xs, h | h, v, e, q⟩ := q
    · exact .inl ⟨_, xs, _, v, rfl, rfl, h, e, q⟩
    · exact .inr (.inl ⟨_, xs, _, v, rfl, rfl, h, e, q⟩)
  · exact q.elim
theorem e_ix (ha : PE X a ta) (hb : PE X b tb) (hs : PlainIx b := by intro _ _; rfl) : PE X (.Subscript a b pos) (tOp (ixM X.K) ta tb) := pe_ix ix_M ha hb hs
def slM (K : PySem.W.Frag) : V → Option Int → Option Int → Hp → VK → Prop := fun x lo hi H Q => match x with
  | .str z => z.length ≤ sizeLine ∧ Q (.str (cutS z lo hi)) H
  | .ref p => (∃ xs, SqL K H p xs ∧ ∀ q, H q = none → Q (.ref q) (upd H q (.lst (cutV xs lo hi)))) ∨ rSlT K (.ref p) lo hi H Q
  | _ => False
theorem sl_M : SlR X (slM X.K) := slwk (SlR.or sl_str (SlR.or sl_list sl_tup)) fun x lo hi H Q q => by
  unfold slM at q
  split at q
  · exact .inl ⟨_, rfl, q.1, q.2⟩
  · rcases q with ⟨xs, h, q⟩ | q
    · exact .inr (.inl ⟨_, xs, rfl, h, q⟩)
    · exact .inr (.inr q)
  · exact q.elim
def intM : List V → Hp → VK → Prop := fun xs H Q => match xs with
  | [.int i] => Q (.int i) H
  | [.bl k] => Q (.int (if k then 1 else 0)) H
  | [.str a] => ∃ n, PySem.intText? a = some n ∧ a.length ≤ 640 ∧ Q (.int n) H
  | _ => False
theorem call_intM : CallR X (.type "int") intM := cwk (CallR.or call_int1 call_int_str) fun xs H Q q => by
  unfold intM at q
  split at q
  · exact .inl (.inl ⟨_, rfl, q⟩)
  · exact .inl (.inr ⟨_, rfl, q⟩)
  · obtain ⟨n, h1, h2, q⟩ := q
    exact .inr ⟨_, n, rfl, h1, h2, q⟩
  · exact q.elim
def lenM (K : PySem.W.Frag) : List V → Hp → VK → Prop := fun xs H Q => match xs with
  | [.str z] => z.length ≤ sizeLine ∧ Q (.int z.length) H
  | [.ref p] => (∃ xs, (SqL K H p xs ∨ SqT K H p xs) ∧ Q (.int xs.length) H) ∨ ∃ kvs, H p = some (.dK kvs) ∧ Q (.int kvs.length) H
  | _ => False
theorem call_lenM : CallR X (.builtin "len") (lenM X.K) := cwk (CallR.or call_len_str (CallR.or call_len_seq call_lenD)) fun xs H Q q => by
  unfold lenM at q
  split at q
  · exact .inl ⟨_, rfl, q.1, q.2⟩
  · rcases q with ⟨xs, h, q⟩ | ⟨kvs, h, q⟩
    · exact .inr (.inl ⟨_, xs, rfl, h, q⟩)
    · exact .inr (.inr ⟨_, kvs, rfl, h, q⟩)
  · exact q.elim

/-! ### the same, the written part named -/
theorem addK (K : PySem.W.Frag) (h : X.K = K := by rfl) : OpR X (binaryOp .Add) (addM K) := h ▸ op_addM
theorem eqK (K : PySem.W.Frag) (hu : X.A.units + 64 < cLine) (h : X.K = K := by rfl) : OpR X (compareOp .Eq) (eqM K) := h ▸ op_eqM hu
theorem neK (K : PySem.W.Frag) (hu : X.A.units + 64 < cLine) (h : X.K = K := by rfl) : OpR X (compareOp .NotEq) (neM K) := h ▸ op_neM hu
theorem inK (K : PySem.W.Frag) (h : X.K = K := by rfl) : OpR X (compareOp .In) (inM K false) := h ▸ op_inM
theorem notInK (K : PySem.W.Frag) (h : X.K = K := by rfl) : OpR X (compareOp .NotIn) (inM K true) := h ▸ op_notInM
theorem pt_t (K : PySem.W.Frag) (ha : PE X a ta) (he : ∀ whole, isTrue a X.env whole = (do let v ← whole; standAt a.pos; holding [v] (truthy v)) := by intro _; rfl) (h : X.K = K := by rfl) : PT X a (tTr K ta) := h ▸ pt_tr ha he
theorem e_x (K : PySem.W.Frag) (ha : PE X a ta) (hb : PE X b tb) (hs : PlainIx b := by intro _ _; rfl) (h : X.K = K := by rfl) : PE X (.Subscript a b pos) (tOp (ixM K) ta tb) := h ▸ e_ix ha hb hs
theorem slK (K : PySem.W.Frag) (h : X.K = K := by rfl) : SlR X (slM K) := h ▸ sl_M
theorem lenK (K : PySem.W.Frag) (h : X.K = K := by rfl) : CallR X (.builtin "len") (lenM K) := h ▸ call_lenM
theorem listK (K : PySem.W.Frag) (h : X.K = K := by rfl) : CallR X (.type "list") (fun xs H Q => ∃ p ys, xs = [.ref p] ∧ (SqL K H p ys ∨ SqT K H p ys) ∧ ∀ l, H l = none → Q (.ref l) (upd H l (.lst ys))) := h ▸ call_list_of
theorem tupleK (K : PySem.W.Frag) (h : X.K = K := by rfl) : CallR X (.type "tuple") (fun xs H Q => ∃ p ys, xs = [.ref p] ∧ ((SqL K H p ys ∧ ∀ l, H l = none → Q (.ref l) (upd H l (.tup ys))) ∨ (SqT K H p ys ∧ Q (.ref p) H))) := h ▸ call_tuple_of
theorem isiK (K : PySem.W.Frag) (h : X.K = K := by rfl) : CallR X (.builtin "isinstance") (rIsi K) := h ▸ call_isi
theorem allK (K : PySem.W.Frag) (hc : X.calm = true) (h : X.K = K := by rfl) : CallR X (.builtin "all") (rAll K) := h ▸ cr_all hc
theorem anyK (K : PySem.W.Frag) (hc : X.calm = true) (h : X.K = K := by rfl) : CallR X (.builtin "any") (rAny K) := h ▸ cr_any hc
theorem sortedK (K : PySem.W.Frag) (h : X.K = K := by rfl) : CallR X (.builtin "sorted") (rSorted K) := h ▸ cr_sorted
theorem sumK (K : PySem.W.Frag) (hc : X.calm = true) (h : X.K = K := by rfl) : CallR X (.builtin "sum") (rSum K) := h ▸ cr_sum hc

/-! ### calls of own defs -/
structure Cal (P : Program) (w : World) (K : PySem.W.Frag) (mg : Str → Option Value) (base : Heap) (CX : CXT) (k : Nat) (x : Str) (f : Addr) (fd : FuncData) (ps : List Str) (sp : Sp) : Prop where
  G : FnOk P w K mg base CX k f fd ps sp
  b : Binds K fd ps []
  kp : PySem.W.keepIn K (.ref f) = true
  m : mg x = some (.ref f)
end
end El

set_option Elab.async false
set_option linter.all false
set_option maxRecDepth 100000
set_option maxHeartbeats 4000000
/-! Own words: an own exception's first row super().__init__(e), the rest of its __init__ by the layer. -/
namespace El
open PySem PySem.Spec PyProof.Rows L2 NdefX
abbrev supRow (p0 p1 p2 p3 p4 : Pos) (e1 : Expr) : Stmt := .Expr (.Call (.Attribute (.Call (.Name "super" p0) [] [] p1) "__init__" p2) [e1] [] p3) p4
abbrev supNF (name qual : Str) (params : Arguments) (body : List Stmt) (scope : Scope) (cc cda : Addr) : NF := ⟨name, qual, params, body, scope, [("__class__", cc)], cda⟩

theorem inv_unpin {X : Cx} {pins : List (Addr × Obj)} {σ : L2.St} {H : Hp} {s : Shared} (I : Inv X pins σ H s) : Inv X [] σ H s := I.pins_of fun p hp => absurd hp (by simp)

theorem fn_super {P : Program} {w : World} {K : PySem.W.Frag} {mg : Str → Option Value} {base : Heap} {CX : CXT} {k : Nat} {f cc cda D : Addr} {name qual : Str} {params : Arguments} {scope : Scope} {doc pm ct oc ccl cl : Value} {od cdd cld : Option Addr} {osl ccs csl : Array (Option Value)} {vs0 : Array Value} {file : Str} {tf : Tok} {cdD : ClassData}
    {N ps : List Str} {sp : Sp} {e1 : Expr} {rest : List Stmt} {p0 p1 p2 p3 p4 : Pos} {ar : Arg}
    (lk : K.lookup f = some ⟨oc, od, .func (PySem.W.fnX name qual params (supRow p0 p1 p2 p3 p4 e1 :: rest) scope [("__class__", cc)] .none .none doc pm none (.ref cda) ct), osl⟩)
    (hcd : PySem.W.codeIn K (.ref cda) qual = true) (S : NScope N ps ["__class__"] scope)
    (hcode : K.lookup cda = some ⟨ccl, cdd, .fields vs0, ccs⟩) (hvs : vs0[2]? = some (.str file tf)) (hfile : ((P.main.file : Str) == file) = true)
    (hcell : K.lookup cc = some ⟨cl, cld, .cell (some (.ref D)), csl⟩) (hD : PySem.W.clsIn K D = some cdD) (hsuper : mg "super" = none)
    (hop : PySem.W.nsIn K PySem.cStatics "thirdparty.any" = some none)
    (hp : (params.posonlyargs ++ params.args).head? = some ar) (hps : ps[0]? = some ar.arg)
    (hks : scope.names.lookup ("super" : Str) = some .globalImplicit) (htop : (P.main.scope.names.lookup ("super" : Str)).isSome = false)
    (hboot : bootBuiltins "super" = some (.type "super"))
    (len : ∀ vs H Q E, sp vs H Q E → vs.length = ps.length)
    (hbody : ∀ (A : Around) (outer : List Env) (s : Shared) (H : Hp) (vs : List V) (Q : VK) (E : XK), Room k (A.deeper (envF (supNF name qual params (supRow p0 p1 p2 p3 p4 e1 :: rest) scope cc cda) f s.heap.objs.size)) → sp vs H Q E →
      ∃ (a C : Addr) (ta : TA) (t : TS), vs[0]? = some (.ref a) ∧ H a = some (exo a C none) ∧ OexC K C ∧ PySem.W.mroIn K C (.ref D) = some true ∧ PySem.W.ks_superIn K C D "__init__" = some (some (.builtin "ValueError.__init__")) ∧ PySem.W.subIn K (.ref C) (.type "ValueError") = some true ∧
        PA (ncx CX P w K mg base N (supNF name qual params (supRow p0 p1 p2 p3 p4 e1 :: rest) scope cc cda) f A outer s H E) [e1] ta ∧
        PSs (ncx CX P w K mg base N (supNF name qual params (supRow p0 p1 p2 p3 p4 e1 :: rest) scope cc cda) f A outer s H E) rest t ∧
        ta (startF N vs [none]) H fun ws H1 => H1 a = some (exo a C none) ∧ ws.length ≤ 1000 ∧ t { nx := fun _ H' => Q .non H', rt := Q } (startF N vs [none]) H1)
    (hst : ∀ env : Env, starEach [e1] env = (false, eval e1 env) :: starEach [] env) {pl : Env → Sem Bool}
    (he : ∀ env : Env, eval (.Call (.Attribute (.Call (.Name "super" p0) [] [] p1) "__init__" p2) [e1] [] p3) env = (do
      let ov ← attributeBase (.Call (.Name "super" p0) [] [] p1) "__init__" env (eval (.Call (.Name "super" p0) [] [] p1) env)
      standAt p2.atName
      let (f, first) ← holding [ov] (getMethod ov "__init__" (pl env))
      callWith p3 f first (backTo p3 (starEach [e1] env)) []))
    (hsw : ∀ env : Env, swapsWith (.Call (.Attribute (.Call (.Name "super" p0) [] [] p1) "__init__" p2) [e1] [] p3) none p4.line env = pure false) :
    FnOk P w K mg base CX (k + 1) f (PySem.W.fnX name qual params (supRow p0 p1 p2 p3 p4 e1 :: rest) scope [("__class__", cc)] .none .none doc pm none (.ref cda) ct) ps sp := by
  refine ⟨len, fun A outer s H args us vs Q E hr e0 hb r hsp => ?_⟩
  have hl := len _ _ _ _ hsp
  have KX : K.In s.heap := e0.mod.kin.keeps fun b o e => (e0.bs b o e).1
  have lim : s.heap.NoLimit := e0.mod.nolimit.keeps fun b o e => (e0.bs b o e).1
  have hkc : scope.names.lookup ("__class__" : Str) = some .free := S.frk _ (List.mem_singleton.mpr rfl)
  refine PySem.ks_codeAny_call_defAt (fd := PySem.W.fnX name qual params (supRow p0 p1 p2 p3 p4 e1 :: rest) scope [("__class__", cc)] .none .none doc pm none (.ref cda) ct) (body := supRow p0 p1 p2 p3 p4 e1 :: rest) (binds := ps.zip us) hr.depth (KX _ _ lk) rfl lim
    (PySem.W.codeRec_of KX hcd) rfl hb S.nocell (fun ⟨n, _⟩ hy => S.par n (List.of_mem_zip hy).1) (fun h₁ hns kp => ?_) S.co S.gen S.kind
  obtain ⟨a, C, ta, t, hv0, hexo, TC, hmro, hsup, hsubV, hPA, hPS, hq⟩ := hbody A outer s H vs Q E (hr.deeper _) hsp
  have bcc : base.get? cc = some ⟨cl, cld, .cell (some (.ref D)), csl⟩ := e0.mod.kin _ _ hcell
  have CC : CellsAt [(("__class__" : Str), cc)] ["__class__"] [none] s.heap H := by
    refine ⟨rfl, fun y c e => ?_, fun x y c e1 e2 => ?_, fun i y hi => ?_⟩
    · have : c = cc := by
        simp only [List.lookup] at e
        split at e
        · exact (Option.some.inj e).symm
        · cases e
      subst this
      exact ⟨(e0.bs _ _ bcc).2, _, _, KX _ _ hcell, rfl⟩
    · simp only [List.lookup] at e1 e2
      split at e1
      · rename_i h1
        split at e2
        · rename_i h2
          rw [beq_iff_eq] at h1 h2
          rw [h1, h2]
        · cases e2
      · cases e1
    · have : i = 0 ∧ y = "__class__" := by
        cases i with
        | zero => simp at hi; exact ⟨rfl, hi.symm⟩
        | succ i => simp at hi
      obtain ⟨rfl, rfl⟩ := this
      exact ⟨cc, by simp [List.lookup], fun v hv => by simp at hv⟩
  have I : Inv (ncx CX P w K mg base N (supNF name qual params (supRow p0 p1 p2 p3 p4 e1 :: rest) scope cc cda) f A outer s H E) [] (startF N vs [none]) H { s with heap := h₁, toks := s.toks + (ps.zip us).length } :=
    inv_startN (F := supNF name qual params (supRow p0 p1 p2 p3 p4 e1 :: rest) scope cc cda) S hr.hd e0 hl r CC hns kp
  have KX1 : K.In h₁ := fun b o e => kp b o (KX b o e)
  obtain ⟨oD, hD1, hD2⟩ : ∃ oD, h₁.get? D = some oD ∧ oD.data = .cls cdD := by
    unfold PySem.W.clsIn at hD
    split at hD
    · rename_i c d cd' sl ho
      cases hD
      exact ⟨_, KX1 _ _ ho, rfl⟩
    · cases hD
  have ndP : ps.Nodup := by
    have q := S.nd.sublist (List.take_sublist (ps.length + 1) N)
    rw [show N.take (ps.length + 1) = ps ++ [("__class__" : Str)] from S.pre] at q
    exact (List.nodup_append.mp q).1
  obtain ⟨u0, hu0, ru0⟩ := r.get hv0
  obtain rfl : u0 = Value.ref a := ru0
  obtain ⟨t1, hga⟩ := exo_at I.hok hexo
  have hint : interactive (envF (supNF name qual params (supRow p0 p1 p2 p3 p4 e1 :: rest) scope cc cda) f s.heap.objs.size) = false := by
    have hk := S.kind
    unfold interactive
    simp [Env.blockKind, hk]
  refine PySem.ks_wpAt_execs_cons (PySem.ks_wpAt_Expr_any (PySem.ks_wpAt_MethodCall (PySem.ks_wpAt_super_base (ar := ar) hks hkc (by decide +kernel) rfl (KX1 _ _ lk) rfl hp rfl (KX1 _ _ hcode) rfl hvs hfile htop ?_) (he _)) hint (hsw _))
  obtain ⟨mb, hb1, hb2⟩ := e0.mod.blt
  have kb : ∀ b o, base.get? b = some o → h₁.get? b = some o := fun b o e => kp b o (e0.bs b o e).1
  refine PySem.W.ks_loadName_global S.kind hks (Calls.loadGlobal_builtin (e0.mod.glob.keeps kb) hsuper (hb1.keeps kb) ((hb2 _ (by decide)).trans hboot) ⟨rfl, ?_⟩)
  refine wpAny_loadName_free S.kind hkc rfl ⟨_, KX1 _ _ hcell, rfl⟩ ?_
  refine wpAny_loadName_local S.kind (S.par _ (List.mem_of_getElem? hps)) hns (zip_look ndP hps hu0) ?_
  refine PySem.ks_wpAny_isType_cls hD1 hD2 ⟨rfl, ?_⟩
  refine PySem.ks_wpAny_call_super hD1 hD2 hga rfl (fun c e => by cases e) (PySem.W.looks_mroIn KX1 hmro) (fun h2 eso k2 => ?_)
  have I2 : Inv (ncx CX P w K mg base N (supNF name qual params (supRow p0 p1 p2 p3 p4 e1 :: rest) scope cc cda) f A outer s H E) [] (startF N vs [none]) H { s with heap := h2, toks := s.toks + (ps.zip us).length } := I.kept k2
  have KX2 : K.In h2 := fun b o e => k2 b o (KX1 b o e)
  cases hcC : PySem.W.clsIn K C with
  | none => unfold PySem.W.ks_superIn at hsup; rw [hcC] at hsup; cases hsup
  | some cd =>
  unfold PySem.W.ks_superIn at hsup
  rw [hcC] at hsup
  have hga2 := k2 _ _ hga
  have INS : PySem.W.InstAt h2 a { cls := .ref C, dict := none, data := .fields #[.ref t1, .none, .none, .none, .bool false, .none] } C none := ⟨hga2, rfl, rfl, trivial⟩
  have hI : PySem.W.Looks (model P w) h2 (isInstance (.ref a) (.type "ValueError")) true := INS.type.andThen (PySem.W.looks_subIn KX2 hsubV)
  refine PySem.W.kxs_getMethod PySem.W.kxs_ValueError eso (PySem.W.looks_opaque KX2 hop) (l₀ := cd.mro) (fun A Q E s k q => wpAny_bind ((PySem.W.looks_clsIn KX2 hcC) A _ E s k (wpAny_pure q))) rfl KX2 hsup hI (PySem.W.ks_ne KX2 INS hcC) (by decide +kernel) ?_
  have I3 : Inv (ncx CX P w K mg base N (supNF name qual params (supRow p0 p1 p2 p3 p4 e1 :: rest) scope cc cda) f A outer s H E) [] (startF N vs [none]) H { s with heap := h2.push (PySem.W.kxs_mw "ValueError.__init__" a), toks := s.toks + (ps.zip us).length + 1 } := I2.kept fun b o e => Heap.get?_push_of_some _ e
  have hu : (h2.push (PySem.W.kxs_mw "ValueError.__init__" a)).get? h2.objs.size = some (PySem.W.kxs_mw "ValueError.__init__" a) := Heap.get?_push_at rfl rfl
  have hfree : H h2.objs.size = none := I2.hok.fresh (Nat.le_refl _)
  have I4 : Inv (ncx CX P w K mg base N (supNF name qual params (supRow p0 p1 p2 p3 p4 e1 :: rest) scope cc cda) f A outer s H E) [(h2.objs.size, PySem.W.kxs_mw "ValueError.__init__" a)] (startF N vs [none]) H { s with heap := h2.push (PySem.W.kxs_mw "ValueError.__init__" a), toks := s.toks + (ps.zip us).length + 1 } :=
    I3.pins_of fun p hp => by
      obtain rfl := List.mem_singleton.mp hp
      exact ⟨hu, hfree, fun z => absurd I2.lt (by rw [← z]; exact Nat.lt_irrefl _), I2.nofs (Nat.le_refl _), fun v z => by cases z⟩
  show wpAny _ _ (callWith p3 (.ref h2.objs.size) [] (backTo p3 (starEach [e1] _)) []) _ _ _
  rw [hst]
  refine PySem.W.kxs_callWith (i := "ValueError.__init__") (x := a) rfl (Calls.evalArgs_plain ?_)
  have hrun := hPA.run p3 _ _ _ _ _ I4 hq
  rw [hst] at hrun
  refine thn hrun fun us' s4 ⟨ws, H1, I5, r5, hexo1, hws, hq1⟩ => ?_
  have hu5 : s4.heap.get? h2.objs.size = some (PySem.W.kxs_mw "ValueError.__init__" a) := (I5.pin (h2.objs.size, PySem.W.kxs_mw "ValueError.__init__" a) (List.mem_append_right _ (List.mem_singleton.mpr rfl))).1
  refine ⟨hu5, ?_⟩
  obtain ⟨nm, q9, N9, bs, bm, sn, sub, ab, col, dd, k0, k1, k2', k3, k5, hC, hbm⟩ := TC.cls
  obtain ⟨t2, hga5⟩ := exo_at I5.hok hexo1
  have hC5 := I5.kIn _ _ hC
  have hus : us'.length ≤ sizeLine := by
    rw [← Paired.length r5, sizeLine_eq]
    omega
  obtain ⟨h5, g5, d5, tk5, os5⟩ := s4
  show wpAny _ _ (call (.ref h2.objs.size) ([] ++ us')) _ _ _
  rw [List.nil_append]
  refine wpAny_call (codeAny_of_tree ?_)
  show wpAny _ _ (callAny (.ref h2.objs.size) ⟨us', []⟩) _ _ _
  simp only [callAny]
  refine wpAny_bind (wpAny_load hu5 ?_)
  simp only [PySem.W.kxs_mw, show (Value.type "method-wrapper" == Value.type "method" || Value.type "method-wrapper" == Value.type "builtin_function_or_method" || Value.type "method-wrapper" == Value.type "method-wrapper") = true by decide, if_true]
  refine PySem.W.KFB.if_so (by decide) ?_
  refine wpAny_bind (PySem.W.check_bound_init PySem.F.excBase_ValueError.toExcCallFacts hC5 hga5 rfl ?_)
  refine wpAny_bind (wpAny_pure (wpAny_pure ?_))
  refine ⟨plainId_quiet PySem.F.excBase_ValueError.init.plain _, codeAny_builtin PySem.F.excBase_ValueError.initEntry ?_⟩
  refine PySem.W.exc_init_tree (cls := .ref C) (t0 := t2) (dv := none) (c2 := .none) (c3 := .none) (b4 := .bool false) hga5 hus (fun h6 k6 e6 _ => ?_)
  have J := I5.write (t' := tk5) (x := a) (e := a) (o := exo a C none) (by rw [hexo1]; exact True.intro) (.inl rfl) k6 ⟨_, e6⟩ (exo_ok e6)
  have eu : upd H1 a (exo a C none) = H1 := by
    funext b
    by_cases hb : b = a
    · rw [hb, upd_same, hexo1]
    · rw [upd_ne hb]
  rw [eu] at J
  have J0 := inv_unpin J
  refine wpAt_of_wpAny ?_
  refine wpAny_mono (hPS.run [] _ _ H1 _ J0 hq1) (fun fl s' hs => ?_) fun e s' hs => hs
  have fin : ∀ {σ' : L2.St} {H' : Hp} {v : V} {u : Value}, Inv (ncx CX P w K mg base N (supNF name qual params (supRow p0 p1 p2 p3 p4 e1 :: rest) scope cc cda) f A outer s H E) [] σ' H' s' → L2.RelV v u → Q v H' → CE outer P w H s Q u s' :=
    fun {σ' H' v u} J rv q => ⟨v, H', J.os, J.bare, J.base, J.hok, rv, q⟩
  cases fl with
  | ret u =>
    obtain ⟨v, σ', H', J, rv, q⟩ := hs
    exact fin J rv q
  | next =>
    obtain ⟨σ', H', J, q⟩ := hs
    exact fin (v := V.non) (u := Value.none) J rfl q
  | brk =>
    obtain ⟨_, _, _, q⟩ := hs
    exact False.elim q
  | cont =>
    obtain ⟨_, _, _, q⟩ := hs
    exact False.elim q
end El

set_option Elab.async false
set_option linter.all false
set_option maxRecDepth 100000
/-! Own words: a text times an int, the text of an int. -/
namespace El
open PySem PySem.Spec PyProof.Rows L2
def repS (z : Str) (k : Int) : Str := if k < 1 then Str.empty else if (k == 1 || z.length == 0) = true then z else ⟨(List.replicate k.toNat z.cps).foldl (· ++ ·) #[]⟩
theorem foldl_cps : ∀ (n : Nat) (a b : Array Nat), ((List.replicate n b).foldl (· ++ ·) a).toList = a.toList ++ (List.replicate n b.toList).flatten
  | 0, a, b => by simp
  | n + 1, a, b => by
    rw [List.replicate_succ, List.foldl_cons, foldl_cps n, Array.toList_append, List.replicate_succ, List.flatten_cons, List.append_assoc]
theorem repS_cps (z : Str) (k : Int) : (repS z k).cps.toList = (List.replicate k.toNat z.cps.toList).flatten := by
  unfold repS
  split
  · rename_i h
    rw [show k.toNat = 0 by omega]
    rfl
  · split
    · rename_i h1 h
      rw [Bool.or_eq_true, beq_iff_eq, beq_iff_eq] at h
      rcases h with h | h
      · subst h
        simp
      · have : z.cps.toList = [] := List.eq_nil_of_length_eq_zero (by rw [Array.length_toList]; exact h)
        rw [this]
        simp
    · rw [foldl_cps]
      rfl
theorem repS1 {c : Nat} {k : Int} : (repS ⟨#[c]⟩ k).cps.toList = List.replicate k.toNat c := by
  rw [repS_cps]
  simp
theorem op_mulS {X : Cx} : OpR X (binaryOp .Mult) (fun x y H Q => ∃ (z : Str) (k : Int), x = .str z ∧ y = .int k ∧ k ≤ 1000 ∧ -1000 ≤ k ∧ z.length ≤ 1000 ∧ Q (.str (repS z k)) H) := by
  intro pins s σ H x y v u Q I rx ry h
  obtain ⟨z, k, rfl, rfl, h1, h2, h3, q⟩ := h
  obtain ⟨t, rfl⟩ := rx
  obtain ⟨t', rfl⟩ := ry
  have e : (2 : Int) ^ 63 = 9223372036854775808 := by decide
  refine PySem.P.mul_str ?_ (fun n1 n2 => ?_) (fun n1 n2 => ?_) ?_
  · rw [e, decide_eq_false (by omega), decide_eq_false (by omega)]
    rfl
  · rw [e]
    have : ((9223372036854775808 : Int) - 1) / 1000 ≤ (9223372036854775808 - 1) / k := by
      refine Int.le_ediv_of_mul_le (by omega) ?_
      have : (9223372036854775808 - 1) / 1000 * k ≤ (9223372036854775808 - 1) / 1000 * 1000 := Int.mul_le_mul_of_nonneg_left h1 (by decide)
      refine Int.le_trans this (by decide)
    have : (1000 : Int) ≤ (9223372036854775808 - 1) / 1000 := by decide
    omega
  · have : z.length * k.toNat ≤ 1000 * 1000 := Nat.mul_le_mul h3 (by omega)
    show decide _ = false
    refine decide_eq_false ?_
    rw [sizeLine_eq]
    omega
  · unfold repS at q
    split
    · rename_i c
      rw [if_pos c] at q
      exact ⟨by decide, .str _, H, I.tok _, ⟨_, rfl⟩, q⟩
    · rename_i c
      rw [if_neg c] at q
      split
      · rename_i c2
        rw [if_pos c2] at q
        exact ⟨.str _, H, I, ⟨_, rfl⟩, q⟩
      · rename_i c2
        rw [if_neg c2] at q
        refine ⟨?_, .str _, H, I.tok _, ⟨_, rfl⟩, q⟩
        have e2 := foldl_cps k.toNat #[] z.cps
        have e3 : ((List.replicate k.toNat z.cps).foldl (· ++ ·) #[]).size = k.toNat * z.length := by
          rw [← Array.length_toList, e2, List.length_append]
          simp
          rfl
        show ((List.replicate k.toNat z.cps).foldl (· ++ ·) #[]).size ≤ sizeLine
        rw [e3, sizeLine_eq]
        have : k.toNat * z.length ≤ 1000 * 1000 := Nat.mul_le_mul (by omega) h3
        omega
/-- times, of texts too -/
def mulSM : R2 := fun x y H Q => match x, y with
  | .str z, .int k => k ≤ 1000 ∧ -1000 ≤ k ∧ z.length ≤ 1000 ∧ Q (.str (repS z k)) H
  | _, _ => mulM x y H Q
theorem op_mulSM {X : Cx} : OpR X (binaryOp .Mult) mulSM := opwk (OpR.or op_mulS op_mulM) fun x y H Q q => by
  unfold mulSM at q
  split at q
  · exact .inl ⟨_, _, rfl, rfl, q⟩
  · exact .inr q
/-- the signs of a number's text -/
theorem int_digits {i : Int} (h : 0 ≤ i) : ∀ c ∈ ((toString i : String) : Str).cps.toList, 48 ≤ c ∧ c ≤ 57 := by
  intro c hm
  by_cases hk : c ≠ 45 ∧ (c < 48 ∨ 57 < c)
  · exact absurd hm (int_text_free' c hk i)
  · by_cases h45 : c = 45
    · exfalso
      subst h45
      obtain ⟨n, rfl⟩ := Int.eq_ofNat_of_zero_le h
      rw [signs_ofString] at hm
      obtain ⟨ch, hc, e⟩ := List.mem_map.mp hm
      have hd : ch.isDigit = true := by
        have : ch ∈ (Nat.repr n).toList := hc
        exact Nat.isDigit_of_mem_toDigits (b := 10) (n := n) (by decide) (by decide) (by simpa [Nat.repr] using this)
      have := digit_range hd
      omega
    · omega
theorem int_text_ne (i : Int) : ((toString i : String) : Str).cps.toList ≠ [] := by
  rw [signs_ofString]
  intro h
  have h := List.map_eq_nil_iff.mp h
  have nn : ∀ n : Nat, (Nat.repr n).toList ≠ [] := fun n e => by
    have : Nat.toDigits 10 n = [] := by simpa [Nat.repr] using e
    exact Nat.toDigits_ne_nil this
  cases i with
  | ofNat n => exact nn n h
  | negSucc n =>
    have : ("-" ++ Nat.repr (n + 1)).toList = [] := h
    simp at this
end El

set_option Elab.async false
set_option linter.all false
set_option maxRecDepth 100000
set_option maxHeartbeats 4000000
/-! Own words: operators of own classes, static methods. -/
namespace El
open PySem PySem.Spec PyProof.Rows L2
theorem cmpBack_of {X : Cx} {pins : List (Addr × Obj)} {σ : L2.St} {Q : VK} {u : Value} {s' : Shared} (h : EP X pins σ Q u s') : PySem.W.CmpBack (EP X pins σ Q) u s' := by
  obtain ⟨v, H', I, r, q⟩ := id h
  cases v with
  | non => cases (show u = Value.none from r); exact h
  | bl b => cases (show u = Value.bool b from r); exact h
  | int i => obtain ⟨t, e⟩ := (show ∃ t, u = Value.int i t from r); subst e; exact h
  | str i => obtain ⟨t, e⟩ := (show ∃ t, u = Value.str i t from r); subst e; exact h
  | byt i => obtain ⟨t, e⟩ := (show ∃ t, u = Value.bytes i t from r); subst e; exact h
  | flt i => obtain ⟨t, e⟩ := (show ∃ t, u = Value.float i t from r); subst e; exact h
  | ref a => cases (show u = Value.ref a from r); exact h
  | ty n => cases (show u = Value.type n from r); exact h
/-- an own class's method for an operator -/
structure OpC (K : PySem.W.Frag) (C f : Addr) (op : Operator) : Prop where
  sf : PySem.W.selfFirst K C = true
  at_ : PySem.W.findIn K (.ref C) (PySem.dunder op.info.2) = some (some (.ref f))
  fn : PySem.W.isFn K (.ref f) = true
/-- .. with a value of the built-in type T on the right -/
structure OpT (K : PySem.W.Frag) (C f : Addr) (op : Operator) (T : String) : Prop where
  c : OpC K C f op
  hr : ∃ rc, PySem.W.findIn K (.ref C) (PySem.dunderR op.info.2) = some rc ∧ (rc = none ∨ ∃ g : Addr, rc = some (.ref g))
  h1 : ∃ fo, PySem.W.findIn K (.type T) (PySem.dunder op.info.2) = some fo
  h2 : ∃ ro, PySem.W.findIn K (.type T) (PySem.dunderR op.info.2) = some ro
  sub : PySem.W.subIn K (.type T) (.ref C) = some false
structure InvC (K : PySem.W.Frag) (C f : Addr) : Prop where
  at_ : PySem.W.findIn K (.ref C) "__invert__" = some (some (.ref f))
  fn : PySem.W.isFn K (.ref f) = true
section
variable {X : Cx} {CX : CXT} {k : Nat} {C f : Addr} {fd : FuncData} {ps : List Str} {sp : Sp} {E : XK} {op : Operator}
/-- a op b, both of the class at C -/
def rOwn (C : Addr) (sp : Sp) (E : XK) : R2 := fun x y H Q => ∃ a b dx fs dy gs, x = .ref a ∧ y = .ref b ∧ H a = some (.ins C dx fs) ∧ H b = some (.ins C dy gs) ∧ sp [.ref a, .ref b] H Q E
theorem op_own (c : OpC X.K C f op) (F : FnOk X.prog X.w X.K X.mg X.base CX k f fd ps sp) (hr : Room k X.A) (hb : Binds X.K fd ps []) (hx : Passes CX X E) : OpR X (binaryOp op) (rOwn C sp E) := by
  intro pins s σ H x y v u Q I rx ry h
  obtain ⟨a, b, dx, fs, dy, gs, rfl, rfl, ea, eb, q⟩ := h
  obtain rfl : v = Value.ref a := rx
  obtain rfl : u = Value.ref b := ry
  obtain ⟨m, fr⟩ := I.fr
  obtain ⟨mA, O, _⟩ := ins_get I.hok ea
  obtain ⟨od, J, _⟩ := O.look
  obtain ⟨mB, O2, _⟩ := ins_get I.hok eb
  obtain ⟨od2, J2, _⟩ := O2.look
  refine PySem.W.binop_K fr I.ok.mod.kin J J2.type c.sf c.at_ c.fn ?_
  refine wpAny_mono (run_fn (us := [.ref a, .ref b]) (vs := [.ref a, .ref b]) (ds := []) (dvs := []) F hr hb .nil hx I (.cons rfl (.cons rfl .nil)) q) (fun u' s' h' => cmpBack_of h') fun _ _ z => z
/-- a op n, n an int -/
def rOwnI (C : Addr) (sp : Sp) (E : XK) : R2 := fun x y H Q => ∃ a dx fs i, x = .ref a ∧ y = .int i ∧ H a = some (.ins C dx fs) ∧ sp [.ref a, .int i] H Q E
theorem op_ownI (c : OpT X.K C f op "int") (F : FnOk X.prog X.w X.K X.mg X.base CX k f fd ps sp) (hr : Room k X.A) (hb : Binds X.K fd ps []) (hx : Passes CX X E) : OpR X (binaryOp op) (rOwnI C sp E) := by
  intro pins s σ H x y v u Q I rx ry h
  obtain ⟨a, dx, fs, i, rfl, rfl, ea, q⟩ := h
  obtain rfl : v = Value.ref a := rx
  obtain ⟨t, rfl⟩ := ry
  obtain ⟨m, fr⟩ := I.fr
  obtain ⟨mA, O, _⟩ := ins_get I.hok ea
  obtain ⟨od, J, _⟩ := O.look
  obtain ⟨rc, hr1, hr2⟩ := c.hr
  obtain ⟨fo, h1⟩ := c.h1
  obtain ⟨ro, h2⟩ := c.h2
  refine PySem.W.ksp_binT fr I.ok.mod.kin J (T := "int") rfl c.c.sf c.c.at_ c.c.fn hr1 hr2 h1 h2 c.sub ?_
  refine wpAny_mono (run_fn (us := [.ref a, .int i t]) (vs := [.ref a, .int i]) (ds := []) (dvs := []) F hr hb .nil hx I (.cons rfl (.cons ⟨t, rfl⟩ .nil)) q) (fun u' s' h' => cmpBack_of h') fun _ _ z => z
/-- ~a -/
theorem un_own (c : InvC X.K C f) (F : FnOk X.prog X.w X.K X.mg X.base CX k f fd ps sp) (hr : Room k X.A) (hb : Binds X.K fd ps []) (hx : Passes CX X E) : UnR X (unaryOp .Invert) (fun x H Q => ∃ a dx fs, x = .ref a ∧ H a = some (.ins C dx fs) ∧ sp [.ref a] H Q E) := by
  intro pins s σ H x v Q I rx h
  obtain ⟨a, dx, fs, rfl, ea, q⟩ := h
  obtain rfl : v = Value.ref a := rx
  obtain ⟨m, fr⟩ := I.fr
  obtain ⟨mA, O, _⟩ := ins_get I.hok ea
  obtain ⟨od, J, _⟩ := O.look
  exact PySem.W.ksp_inv fr I.ok.mod.kin J c.at_ c.fn (run_fn (us := [.ref a]) (vs := [.ref a]) (ds := []) (dvs := []) F hr hb .nil hx I (.cons rfl .nil) q)
end

section
variable {X : Cx} {CX : CXT} {k : Nat} {C f : Addr} {fd : FuncData} {ps : List Str} {sp : Sp} {E : L2.St → XK} {op : Operator} {a b : Expr} {ta tb : TE} {pos : Pos}
/-- .. what it lets out being taken where it stands -/
def tOwnS (C : Addr) (sp : Sp) (E : L2.St → XK) (ta tb : TE) : TE := fun σ H Q => ta σ H fun x H1 => tb σ H1 fun y H2 => ∃ a b dx fs dy gs, x = .ref a ∧ y = .ref b ∧ H2 a = some (.ins C dx fs) ∧ H2 b = some (.ins C dy gs) ∧ sp [.ref a, .ref b] H2 Q (E σ)
theorem pe_bopS (c : OpC X.K C f op) (F : FnOk X.prog X.w X.K X.mg X.base CX k f fd ps sp) (hr : Room k X.A) (hb : Binds X.K fd ps []) (hx : ∀ σ, PassesAt CX X σ (E σ)) (ha : PE X a ta) (hb2 : PE X b tb) : PE X (.BinOp a op b pos) (tOwnS C sp E ta tb) := by
  refine ⟨fun pins s σ H Q I h => ?_⟩
  refine wpAny_BinOp (thn (ha.run pins s σ H _ I h) fun v s1 ⟨x, H1, I1, rx, q1⟩ => thn (hb2.run pins s1 σ H1 _ I1 q1) fun u s2 ⟨y, H2, I2, ry, a, b, dx, fs, dy, gs, ex, ey, ea, eb, q⟩ => ?_)
  subst ex ey
  obtain rfl : v = Value.ref a := rx
  obtain rfl : u = Value.ref b := ry
  obtain ⟨m, fr⟩ := I2.fr
  obtain ⟨mA, O, _⟩ := ins_get I2.hok ea
  obtain ⟨od, J, _⟩ := O.look
  obtain ⟨mB, O2, _⟩ := ins_get I2.hok eb
  obtain ⟨od2, J2, _⟩ := O2.look
  refine PySem.W.binop_K fr I2.ok.mod.kin J J2.type c.sf c.at_ c.fn ?_
  refine wpAny_mono (run_fnS (us := [.ref a, .ref b]) (vs := [.ref a, .ref b]) F hr hb (hx σ) I2 (.cons rfl (.cons rfl .nil)) q) (fun u' s' h' => cmpBack_of h') fun _ _ z => z
end

/-! ### static methods, by the class's name -/
structure SMet (K : PySem.W.Frag) (C : Addr) (mc : Value) (m : Str) (p g : Addr) : Prop where
  at_ : PySem.W.findCls K (.ref C) mc m = some (.get (.builtin "staticmethod.__get__") (.ref p) .none (.ref C))
  rc : ∃ rest, PySem.W.recIn K p "staticmethod" = some (.ref g :: rest)
  kp : PySem.W.keepIn K (.ref g) = true
section
variable {X : Cx} {CX : CXT} {k : Nat} {C p g : Addr} {mc : Value} {fd : FuncData} {ps : List Str} {sp : Sp} {E : XK} {o e : Expr} {es : List Expr} {m : Str} {pos apos : Pos} {ta : TE} {t : TA} {pl : Sem Bool}
def tSM (C : Addr) (sp : Sp) (E : XK) (ta : TE) (t : TA) : TE := fun σ H Q => ta σ H fun x H1 => x = .ref C ∧ t σ H1 fun vs H2 => sp vs H2 Q E
theorem getsm_ok {pins : List (Addr × Obj)} {σ : L2.St} {H : Hp} {s : Shared} {A : Around} {E : Value → Shared → Prop} {Q : Value × List Value → Shared → Prop} (I : Inv X pins σ H s) (r : ClX.CRead X.K C mc) (c : SMet X.K C mc m p g)
    (h : ∀ s', Inv X pins σ H s' → Q (.ref g, []) s') : wpAny (model X.prog X.w) A (getMethod (.ref C) m pl) Q E s := by
  obtain ⟨rest, hp⟩ := c.rc
  refine PySem.W.method_cls I.kIn r.ga ?_
  refine PySem.W.cls_bind I.kIn r.rd c.at_ ?_
  exact wpAny_call (PySem.W.sm_get (s := { s with toks := s.toks + 1 }) I.kIn hp (PySem.W.handed_on rfl (h _ (I.tok _))))
theorem pe_smeth (he : PE X o ta) (r : ClX.CRead X.K C mc) (c : SMet X.K C mc m p g) (F : FnOk X.prog X.w X.K X.mg X.base CX k g fd ps sp) (hr : Room k X.A) (hb : Binds X.K fd ps []) (hx : Passes CX X E) (ha : PA X (e :: es) t)
    (hst : starEach (e :: es) X.env = (false, eval e X.env) :: starEach es X.env := by rfl) (hpl : (backTo pos (starEach es X.env)).any (·.1) = false := by rfl)
    (ht : eval (.Call (.Attribute o m apos) (e :: es) [] pos) X.env = (do
      let ov ← eval o X.env
      standAt apos.atName
      let (f, first) ← holding [ov] (getMethod ov m pl)
      callWith pos f first (backTo pos (starEach (e :: es) X.env)) (backToKw pos (keywordEach [] X.env))) := by rfl) :
    PE X (.Call (.Attribute o m apos) (e :: es) [] pos) (tSM C sp E ta t) := by
  refine ⟨fun pins s σ H Q I h => ?_⟩
  refine PySem.W.methodCall_KW (pl := pl) (thn (he.run pins s σ H _ I h) fun u s1 ⟨x, H1, I1, rx, ex, q⟩ => ?_) ht
  subst ex
  obtain rfl : u = Value.ref C := rx
  refine getsm_ok I1 r c fun s2 I2 => ?_
  refine PySem.W.callWith_K (h₀ := X.base) I2.ok.mod.kin c.kp (thn (ha.run pos pins s2 σ H1 _ I2 q) fun us s3 ⟨vs, H2, I3, rv, q2⟩ => ⟨I3.kIn, ?_⟩) hst hpl
  have hl : sp (vs ++ []) H2 Q E := by rw [List.append_nil]; exact q2
  exact run_fn (ds := []) (dvs := []) F hr hb .nil hx I3 rv hl
theorem pe_smeth0 (he : PE X o ta) (r : ClX.CRead X.K C mc) (c : SMet X.K C mc m p g) (F : FnOk X.prog X.w X.K X.mg X.base CX k g fd ps sp) (hr : Room k X.A) (hb : Binds X.K fd ps []) (hx : Passes CX X E)
    (ht : eval (.Call (.Attribute o m apos) [] [] pos) X.env = (do
      let ov ← eval o X.env
      standAt apos.atName
      let (f, first) ← holding [ov] (getMethod ov m pl)
      callWith pos f first (backTo pos (starEach [] X.env)) (backToKw pos (keywordEach [] X.env))) := by rfl) :
    PE X (.Call (.Attribute o m apos) [] [] pos) (tSM C sp E ta tNil) := by
  refine ⟨fun pins s σ H Q I h => ?_⟩
  refine PySem.W.methodCall_KW (pl := pl) (thn (he.run pins s σ H _ I h) fun u s1 ⟨x, H1, I1, rx, ex, q⟩ => ?_) ht
  subst ex
  obtain rfl : u = Value.ref C := rx
  refine getsm_ok I1 r c fun s2 I2 => ?_
  exact PySem.W.callWith_K0 I2.kIn c.kp (run_fn (us := []) (vs := []) (ds := []) (dvs := []) F hr hb .nil hx I2 .nil q)
end

/-! ### defs of own classes, ready to be called -/
structure CalB (P : Program) (w : World) (K : PySem.W.Frag) (mg : Str → Option Value) (base : Heap) (CX : CXT) (k : Nat) (f : Addr) (fd : FuncData) (ps : List Str) (sp : Sp) : Prop where
  G : FnOk P w K mg base CX k f fd ps sp
  b : Binds K fd ps []
structure CalI (P : Program) (w : World) (K : PySem.W.Frag) (mg : Str → Option Value) (base : Heap) (CX : CXT) (k : Nat) (x : Str) (C f : Addr) (fd : FuncData) (ps : List Str) (sp : Sp) : Prop extends CalB P w K mg base CX k f fd ps sp where
  mkc : Mk K C f
  m : mg x = some (.ref C)
structure CalS (P : Program) (w : World) (K : PySem.W.Frag) (mg : Str → Option Value) (base : Heap) (CX : CXT) (k : Nat) (C p : Addr) (m : Str) (f : Addr) (fd : FuncData) (ps : List Str) (sp : Sp) : Prop extends CalB P w K mg base CX k f fd ps sp where
  rd : ClX.CRead K C (.type "type")
  sm : SMet K C (.type "type") m p f
structure CalP (P : Program) (w : World) (K : PySem.W.Frag) (mg : Str → Option Value) (base : Heap) (CX : CXT) (k : Nat) (C p : Addr) (m : Str) (f : Addr) (fd : FuncData) (ps : List Str) (sp : Sp) : Prop extends CalB P w K mg base CX k f fd ps sp where
  cl : Cls K C
  pr : PropOf K C m p f
structure CalO (P : Program) (w : World) (K : PySem.W.Frag) (mg : Str → Option Value) (base : Heap) (CX : CXT) (k : Nat) (C : Addr) (op : Operator) (f : Addr) (fd : FuncData) (ps : List Str) (sp : Sp) : Prop extends CalB P w K mg base CX k f fd ps sp where
  op : OpC K C f op
structure CalC (P : Program) (w : World) (K : PySem.W.Frag) (mg : Str → Option Value) (base : Heap) (CX : CXT) (k : Nat) (C f : Addr) (fd : FuncData) (ps : List Str) (sp : Sp) : Prop extends CalB P w K mg base CX k f fd ps sp where
  co : StX.CallO K C f

/-! ### the written part named (in comprehensions) -/
section
variable {X : Cx} {e : Expr} {es : List Expr} {f : Str} {pos p : Pos} {ta : TE} {t : TA}
theorem e_f (K : PySem.W.Frag) (he : PE X e ta) (hb : attributeBase e f X.env (eval e X.env) = eval e X.env := by rfl) (h : X.K = K := by rfl) : PE X (.Attribute e f pos) (tFld K ta f) := h ▸ pe_fld he hb
theorem e_cv (K : PySem.W.Frag) (he : PE X e ta) (hb : attributeBase e f X.env (eval e X.env) = eval e X.env := by rfl) (h : X.K = K := by rfl) : PE X (.Attribute e f pos) (ClX.tCVal K ta f) := h ▸ ClX.pe_cval he hb
end

/-! ### len of an own class -/
structure LenC (K : PySem.W.Frag) (C f : Addr) : Prop where
  at_ : PySem.W.findIn K (.ref C) "__len__" = some (some (.ref f))
  fn : PySem.W.isFn K (.ref f) = true
theorem call_lenO {X : Cx} {k : Nat} {C f : Addr} {fd : FuncData} {ps : List Str} {sp : Sp} (c : LenC X.K C f) (F : FnOk X.prog X.w X.K X.mg X.base CX0 k f fd ps sp) (hr : Room (k + 1) X.A) (hb : Binds X.K fd ps []) :
    CallR X (.builtin "len") (fun xs H Q => ∃ a dx fs, xs = [.ref a] ∧ H a = some (.ins C dx fs) ∧ sp [.ref a] H (fun v H' => ∃ n : Int, v = .int n ∧ 0 ≤ n ∧ n < 2 ^ 62 ∧ Q (.int n) H') E0) := by
  intro pins s σ H xs us Q I r h
  obtain ⟨a, dx, fs, rfl, ea, q⟩ := h
  obtain rfl := Vals.ref1 r
  obtain ⟨m, fr⟩ := I.fr
  obtain ⟨mA, O, _⟩ := ins_get I.hok ea
  obtain ⟨od, J, _⟩ := O.look
  refine PySem.W.len_K fr I.ok.mod.kin J c.at_ c.fn ?_
  have hl : ([Value.ref a] ++ []).length = ps.length := (F.len _ _ _ _ q)
  have b := hb s [.ref a] I.kIn hl
  rw [List.append_nil] at b
  refine wpAny_call (codeAny_mono (F.run X.A.in1 X.stack s H ⟨[.ref a], []⟩ [.ref a] [.ref a] _ E0 hr.in1 I.env0.in1 b (.cons rfl .nil) q) fun r s' hq' => ?_)
  cases r with
  | error e => exact False.elim hq'
  | ok fl =>
    cases fl with
    | ret u =>
      obtain ⟨v, H', I3, rv, n, rfl, h0, h1, q3⟩ := I.after hq'
      obtain ⟨t, rfl⟩ := rv
      exact ⟨⟨h0, Int.lt_trans h1 (by decide)⟩, ⟨.int n, H', I3.tok _, ⟨_, rfl⟩, q3⟩⟩
    | next => exact False.elim hq'
    | brk => exact False.elim hq'
    | cont => exact False.elim hq'
structure CalL (P : Program) (w : World) (K : PySem.W.Frag) (mg : Str → Option Value) (base : Heap) (CX : CXT) (k : Nat) (C f : Addr) (fd : FuncData) (ps : List Str) (sp : Sp) : Prop extends CalB P w K mg base CX k f fd ps sp where
  le : LenC K C f
end El

set_option Elab.async false
set_option linter.all false
set_option maxRecDepth 100000
set_option maxHeartbeats 4000000
/-! Own words: what the written part says of an own exception class, isinstance of what an except clause holds. -/
namespace El
open PySem PySem.Spec PyProof.Rows L2 NdefX
/-- isinstance(e, c), e the exception that the suite holds, with a dict -/
def rIsX (K : PySem.W.Frag) (cls : Value) (d : Option Addr) (a : Addr) : List V → Hp → VK → Prop := fun xs H Q => ∃ (D dd : Addr) (fs : List (Str × V)) (c : V) (cv : Value) (b : Bool), xs = [.ref a, c] ∧ cls = .ref D ∧ d = some dd ∧ H dd = some (.xd fs) ∧ ExcC K D ∧ (∀ u, RelV c u → u = cv) ∧ PySem.W.kitOne K (.ref D) cv = some b ∧ Q (.bl b) H
theorem call_isX {X : Cx} {a : Addr} {oe : Obj} {cls : Value} {d : Option Addr} {pn : List (Addr × Obj)} (hz : Zc cls d oe) (hf : ∃ vs, oe.data = .fields vs) : CallR (X.suite a ((a, oe) :: pn)) (.builtin "isinstance") (rIsX X.K cls d a) := by
  intro pins s σ H xs us Q I r h
  obtain ⟨D, dd, fs, c, cv, b, rfl, rfl, rfl, ea, C, hcv, e, q⟩ := h
  cases r with
  | cons rx rr =>
    cases rr with
    | cons rt rr =>
      cases rr
      cases rx
      have ec := hcv _ rt
      subst ec
      obtain ⟨hget, _⟩ := I.pin (a, oe) (List.mem_append.mpr (.inl List.mem_cons_self))
      obtain ⟨vs, hv⟩ := hf
      have hx : ObjOk X.prog X.w H s.heap dd (.xd fs) := I.hok dd _ ea
      obtain ⟨mA, hns, hr⟩ := hx
      obtain ⟨od, ho, hl⟩ := lookIn_ns hns
      have J : PySem.W.InstAt s.heap a oe D (some od) := ⟨hget, hz.1, by unfold PySem.W.notCls; rw [hv] <;> rfl, by rw [hz.2]; exact ho⟩
      obtain ⟨cdD, hcD, _⟩ := PySem.W.any_some C.hd
      exact PySem.W.kia_one (PySem.W.kitx_exc (by rw [hcD]; rfl) C.hg C.hk C.hs C.ha C.hn C.ht C.hm) I.kIn J e (fun z => nomatch z) fun tk => ⟨.bl b, H, I.kept (t' := tk) fun _ _ z => z, rfl, q⟩
/-- an own exception class with its own __init__ -/
structure ExK (K : PySem.W.Frag) (C fI : Addr) (fields : List Str) : Prop where
  oex : OexC K C
  sup : PySem.W.ks_superIn K C C "__init__" = some (some (.builtin "ValueError.__init__"))
  subV : PySem.W.subIn K (.ref C) (.type "ValueError") = some true
  mro : PySem.W.mroIn K C (.ref C) = some true
  iC : PySem.W.findIn K (.ref C) "__init__" = some (some (.ref fI))
  tI : PySem.W.typeIn K (.ref fI) = some (.type "function")
  no : ∀ f ∈ fields, PySem.W.findIn K (.ref C) f = some none
  xf : XfC K C
  is : ExcC K C
/-- what a suite that catches it must know -/
structure ExV (K : PySem.W.Frag) (C : Addr) (fields : List Str) : Prop where
  no : ∀ f ∈ fields, PySem.W.findIn K (.ref C) f = some none
  xf : XfC K C
  is : ExcC K C
/-- the i-th def of the class body -/
def mthS (s : Stmt) (i : Nat) : Stmt := match s with
  | .ClassDef _ _ _ b _ _ _ _ _ _ _ => b.getD i (.Pass ⟨0, 0, 0, 0⟩)
  | _ => .Pass ⟨0, 0, 0, 0⟩
/-- the same, from what the written part answers -/
theorem exk_mk {K : PySem.W.Frag} {C fI N : Addr} {fields : List Str} {nm q : Str} {bs bm : List Value} {sn : List Str} {sub : List Value} {ab : Bool} {col : Option Bool} {dd : Option Addr} {k0 k1 k2 k3 k5 : Option Value}
    (cls : K.lookup C = some (excClassObj nm q C N bs bm true sn sub ab col dd k0 k1 k2 k3 k5 "ValueError.__new__")) (ref : PySem.HandSPX.refsVE bm = true)
    (sa : PySem.W.findIn K (.ref C) "__setattr__" = some (some (.builtin "object.__setattr__"))) (exC : PySem.W.subIn K (.ref C) (.type "BaseException") = some true) (tyC : PySem.W.typeIn K (.ref C) = some (.type "type")) (kC : PySem.W.keepIn K (.ref C) = true)
    (sup : PySem.W.ks_superIn K C C "__init__" = some (some (.builtin "ValueError.__init__"))) (subV : PySem.W.subIn K (.ref C) (.type "ValueError") = some true) (mro : PySem.W.mroIn K C (.ref C) = some true)
    (iC : PySem.W.findIn K (.ref C) "__init__" = some (some (.ref fI))) (tI : PySem.W.typeIn K (.ref fI) = some (.type "function")) (no : ∀ f ∈ fields, PySem.W.findIn K (.ref C) f = some none)
    (ga : PySem.W.findIn K (.ref C) "__getattribute__" = some (some (.builtin "BaseException.__getattribute__"))) (gg : PySem.W.findIn K (.ref C) "__getattr__" = some none) (hd : PySem.W.hasDictIn K C = true)
    (hcl : PySem.W.findIn K (.ref C) "__class__" = some (some (.builtin "object.__class__"))) (hn : PySem.W.specialIn K (.builtin "object.__class__") "__get__" = some (some (.builtin "getset_descriptor.__get__"))) (ht : PySem.W.takesIn K (.builtin "object.__class__") = some true) (hm : PySem.W.mroIn K C (.type "object") = some true) : ExK K C fI fields :=
  ⟨⟨⟨nm, q, N, bs, bm, sn, sub, ab, col, dd, k0, k1, k2, k3, k5, cls, ref⟩, sa, exC, tyC, kC⟩, sup, subV, mro, iC, tI, no, ⟨ga, gg, exC, hd⟩, ⟨ga, gg, exC, hd, hcl, hn, ht, hm⟩⟩

/-! ### an own exception's __init__, by what it keeps -/
def spE (C : Addr) (ok : List V → Prop) (fs : List V → List (Str × V)) : Sp := fun vs H Q _ => ∃ (a : Addr) (ws : List V), vs = .ref a :: ws ∧ ok ws ∧ H a = some (exo a C none) ∧
  ∀ (dx : Addr) (H' : Hp), H dx = none → dx ≠ a → H' a = some (exo a C (some dx)) → H' dx = some (exd dx (fs ws)) → (∀ b, b ≠ a → b ≠ dx → H' b = H b) → Q .non H'
theorem mk_spE {C : Addr} {ok : List V → Prop} {fs : List V → List (Str × V)} {vs : List V} {H1 : Hp} {Q : XK} (hl : vs.length ≤ 1000) (ho : ok vs) (hq : ∀ d, H1 d = none → Q (.ref C) (some d) (upd H1 d (.xd (fs vs)))) :
    vs.length ≤ 1000 ∧ ∀ a, H1 a = none → spE C ok fs (.ref a :: (vs ++ [])) (upd H1 a (exo a C none))
      (fun v H2 => v = .non ∧ ∃ (d : Addr) (fs : List (Str × V)), H2 a = some (exo a C (some d)) ∧ H2 d = some (exd d fs) ∧ H1 d = none ∧ Q (.ref C) (some d) (upd (del H2 a) d (.xd fs))) (fun _ _ _ => False) := by
  refine ⟨hl, fun a na => ⟨a, vs, by rw [List.append_nil], ho, upd_same, fun dx H' n ne e1 e2 hh => ⟨rfl, dx, fs vs, e1, e2, ?_, ?_⟩⟩⟩
  · rw [upd_ne ne] at n
    exact n
  · have nd : H1 dx = none := by rw [upd_ne ne] at n; exact n
    have e : upd (del H' a) dx (.xd (fs vs)) = upd H1 dx (.xd (fs vs)) := by
      funext b
      by_cases hb : b = dx
      · rw [hb, upd_same, upd_same]
      · rw [upd_ne hb, upd_ne hb]
        by_cases ha : b = a
        · rw [ha, del_same, na]
        · rw [del_ne ha, hh b ha hb, upd_ne ha]
    rw [e]
    exact hq dx nd
/-- the class, its __init__, ready for a raise -/
structure CalE (P : Program) (w : World) (K : PySem.W.Frag) (mg : Str → Option Value) (base : Heap) (k : Nat) (x : Str) (C f : Addr) (fd : FuncData) (ps : List Str) (ok : List V → Prop) (fs : List V → List (Str × V)) (fields : List Str) : Prop where
  G : FnOk P w K mg base CX0 k f fd ps (spE C ok fs)
  b : Binds K fd ps []
  X : ExK K C f fields
  m : mg x = some (.ref C)
/-- one store, the dict being new -/
theorem ost1 {a C : Addr} {H : Hp} {f : Str} {y : V} {Q : Hp → Prop} (ea : H a = some (exo a C none)) (q : ∀ dx H', H dx = none → dx ≠ a → H' a = some (exo a C (some dx)) → H' dx = some (exd dx [(f, y)]) → (∀ b, b ≠ a → b ≠ dx → H' b = H b) → Q H') :
    ∀ dx, H dx = none → dx ≠ a → Q (upd (upd H dx (exd dx [(f, y)])) a (exo a C (some dx))) := fun dx n ne =>
  q dx _ n ne upd_same (by rw [upd_ne ne, upd_same]) fun b h1 h2 => by rw [upd_ne h1, upd_ne h2]
end El

set_option Elab.async false
set_option linter.all false
set_option maxRecDepth 100000
set_option maxHeartbeats 4000000
/-! Own words: methods of own classes, classes whose __init__ has defaults, tuple targets in comprehensions. -/
namespace El
open PySem PySem.Spec PyProof.Rows L2
structure CalM (P : Program) (w : World) (K : PySem.W.Frag) (mg : Str → Option Value) (base : Heap) (CX : CXT) (k : Nat) (C : Addr) (m : Str) (f : Addr) (fd : FuncData) (ps : List Str) (sp : Sp) : Prop extends CalB P w K mg base CX k f fd ps sp where
  cl : Cls K C
  me : Meth K C m f
/-- a class whose __init__ has defaults dvs that fill up -/
structure CalID (P : Program) (w : World) (K : PySem.W.Frag) (mg : Str → Option Value) (base : Heap) (CX : CXT) (k : Nat) (x : Str) (C f : Addr) (fd : FuncData) (ps : List Str) (dvs : List V) (sp : Sp) : Prop where
  G : FnOk P w K mg base CX k f fd ps sp
  b : ∃ ds, Vals dvs ds ∧ Binds K fd ps ds
  mkc : Mk K C f
  m : mg x = some (.ref C)
section
variable {X : Cx} {CX : CXT} {k : Nat} {C f : Addr} {fd : FuncData} {ps : List Str} {dvs : List V} {sp : Sp} {E : XK} {x : Str} {p pos : Pos} {e : Expr} {es : List Expr} {t : TA}
theorem pe_makeD (c : CalID X.prog X.w X.K X.mg X.base CX k x C f fd ps dvs sp) (hr : Room (k + 1) X.A) (hg : Gl X x) (hx : Passes CX X E) (ha : PA X (e :: es) t) (hdb : (x == ("__debug__" : Str)) = false := by decide)
    (he : starEach (e :: es) X.env = (false, eval e X.env) :: starEach es X.env := by rfl) (hpl : (backTo pos (starEach es X.env)).any (·.1) = false := by rfl) :
    PE X (.Call (.Name x p) (e :: es) [] pos) (tMake C sp dvs E t) := by
  obtain ⟨ds, hd, hb⟩ := c.b
  exact pe_make c.mkc c.G hr hg c.m hb hd hx ha hdb he hpl
end
section
variable {X : Cx}
theorem pg_tupK (K : PySem.W.Frag) {es : List Expr} {k : Nat} {t : TGs} {n : Nat} {pos : Pos} (hc : X.calm = true) (h : PGs X es t)
    (hn : (assignEach es X.env).length = n := by rfl) (hst : (assignEach es X.env).findIdx? (·.1) = none := by rfl) (hK : X.K = K := by rfl) : PG X (.Tuple es k pos) (gTup K n t) := hK ▸ pg_tup hc h hn hst
end
/-- a def of the text whose last parameter has a default -/
theorem fund_mk {K : PySem.W.Frag} {x qual : Str} {st : Stmt} {f T : Addr} {oc : Value} {od dd an : Option Addr} {osl dsl : Array (Option Value)} {kV doc pm cdv ct : Value} {its : Array Value} {n : Nat} {dvs : List V}
    (l : K.lookup f = some ⟨oc, od, .func (PySem.W.fnOf x qual (defArgs st) (defBody st) (defScope st) (.ref T) kV doc pm an cdv ct), osl⟩) (c : PySem.W.codeIn K cdv qual = true) (k : PySem.W.keepIn K (.ref f) = true)
    (lT : K.lookup T = some ⟨.type "tuple", dd, .seq its n, dsl⟩) (hv : Vals dvs its.toList) (hne : dvs ≠ []) : FunD K x qual (defArgs st) (defBody st) (defScope st) dvs [] f (PySem.W.fnOf x qual (defArgs st) (defBody st) (defScope st) (.ref T) kV doc pm an cdv ct) :=
  ⟨⟨oc, od, .ref T, kV, doc, pm, an, cdv, ct, osl, rfl, l, c, .inr ⟨hne, T, _, its.toList, n, rfl, lT, by simp, hv⟩, .inl rfl⟩, k⟩
end El

set_option Elab.async false
set_option linter.all false
set_option maxRecDepth 100000
set_option maxHeartbeats 4000000
/-! Own words: len(set(t)) of a tuple of any number of texts. -/
namespace El
open PySem PySem.Spec PyProof.Rows L2
/-- among the first i texts -/
def Has (xs : List Str) (i : Nat) : Str → Bool := fun y => (xs.take i).any (· == y)
/-- c different ones among the first i, as far as it is asked -/
def Cnt (xs : List Str) (i c : Nat) : Prop := c ≤ i ∧ (c = i ↔ (xs.take i).Nodup)
theorem has_iff {xs : List Str} {i : Nat} {y : Str} : Has xs i y = true ↔ y ∈ xs.take i := by
  unfold Has
  rw [List.any_eq_true]
  constructor
  · rintro ⟨z, hz, e⟩
    rw [beq_iff_eq] at e
    exact e ▸ hz
  · intro h
    exact ⟨y, h, beq_iff_eq.mpr rfl⟩
theorem take_more {xs : List Str} {i : Nat} {x : Str} (e : xs[i]? = some x) : xs.take (i + 1) = xs.take i ++ [x] := by rw [List.take_add_one, e]; rfl
theorem Cnt.nil (xs : List Str) : Cnt xs 0 0 := ⟨Nat.le_refl _, by simp⟩
theorem Cnt.more {xs : List Str} {i c : Nat} {x : Str} (h : Cnt xs i c) (e : xs[i]? = some x) : Cnt xs (i + 1) (if Has xs i x = true then c else c + 1) := by
  obtain ⟨h1, h2⟩ := h
  have hn : (xs.take (i + 1)).Nodup ↔ (xs.take i).Nodup ∧ x ∉ xs.take i := by
    rw [take_more e, List.nodup_append]
    constructor
    · rintro ⟨a, -, b⟩
      exact ⟨a, fun hx => b x hx x (List.mem_singleton.mpr rfl) rfl⟩
    · rintro ⟨a, b⟩
      refine ⟨a, by simp, fun y hy z hz => ?_⟩
      rw [List.mem_singleton] at hz
      intro q
      exact b (hz ▸ q ▸ hy)
  unfold Cnt
  rw [hn]
  by_cases q : Has xs i x = true
  · rw [if_pos q]
    refine ⟨by omega, ⟨fun z => absurd z (by omega), fun z => absurd (has_iff.mp q) z.2⟩⟩
  · rw [if_neg q]
    refine ⟨by omega, ⟨fun z => ⟨h2.mp (by omega), fun y => q (has_iff.mpr y)⟩, fun z => by rw [h2.mpr z.1]⟩⟩
section
variable {prog : Program} {w : World} {A : Around} {R : Result → Shared → Prop} {it : Addr} {fp wr : List Addr} {G : Array GenState → Array GenState → Prop} {n : Nat} {Pv : Nat → Value → Prop} {St : Nat → Shared → Prop}
theorem loopTx (W : WalksS prog w A.in1 it fp wr G n Pv St) (b : Addr) (hb : b ∉ fp) (xs : List Str) (hn : xs.length = n) (hs : n + 1 < scanBound) (hv : ∀ i v, Pv i v → ∃ t, v = .str (xs.getD i Str.empty) t) :
    ∀ (k i : Nat) (s : Shared), n - i = k → i ≤ n → St i s → (∃ c, Cnt xs i c ∧ s.heap.SetOf (PySem.strKind prog w) b (Has xs i) c) →
      (∀ s' c, Moved (b :: wr) G s s' → Cnt xs n c → s'.heap.SetOf (PySem.strKind prog w) b (Has xs n) c → R (.ok (.ret .none)) s') →
      codeAny (model prog w) A (.builtin "set.update.loop" ⟨[.ref b, .ref it], []⟩) R s := by
  have hbw : b ∉ wr := fun h => hb (W.sub _ h)
  have wsub : ∀ q ∈ wr, q ∈ b :: wr := fun q hq => List.mem_cons_of_mem _ hq
  intro k
  induction k with
  | zero =>
    rintro i s hk hi st ⟨c, hc, ho⟩ done
    obtain rfl : i = n := by omega
    refine codeAny_builtin PyProof.Rows.F.entry_set_update_loop ?_
    rw [Around.under_plainId PyProof.Rows.F.plain_set_update_loop _]
    refine wpAny_bind (m := pyNext (.ref it)) (W.done s _ _ st fun s1 mv => ?_)
    refine wpAny_pure (done s1 c (mv.mono wsub) hc ?_)
    obtain ⟨o, es, ep, tb, e, more⟩ := ho
    exact ⟨o, es, ep, tb, mv.heap b _ hbw e, more⟩
  | succ k ih =>
    rintro i s hk hi st ⟨c, hc, ho⟩ done
    have lt : i < n := by omega
    refine codeAny_builtin PyProof.Rows.F.entry_set_update_loop ?_
    rw [Around.under_plainId PyProof.Rows.F.plain_set_update_loop _]
    refine wpAny_bind (m := pyNext (.ref it)) (W.item i s _ _ lt st fun v s1 pv st1 mv => ?_)
    obtain ⟨t, rfl⟩ := hv i v pv
    have ei : xs[i]? = some (xs.getD i Str.empty) := by
      rw [List.getD_eq_getElem?_getD, List.getElem?_eq_getElem (by omega)]; rfl
    have ho1 : s1.heap.SetOf (PySem.strKind prog w) b (Has xs i) c := by
      obtain ⟨o, es, ep, tb, e, more⟩ := ho
      exact ⟨o, es, ep, tb, mv.heap b _ hbw e, more⟩
    refine wpAny_bind (m := holding [Value.str (xs.getD i Str.empty) t] (setAdd b (.str (xs.getD i Str.empty) t))) (wpAny_holding ?_)
    unfold setAdd
    refine wpAny_holding (wpAny_bind ((PySem.strKind prog w).pyHash (strKind_is _ _ _ _) ?_))
    have hlt : c + 1 < scanBound := by have := hc.1; omega
    refine wpAny_setAddHashed_of (knd := PySem.strKind prog w) (s := { s1 with toks := s1.toks + 1 }) (strKind_is _ _ _ _) rfl ho1 hlt fun h' same ho2 => ?_
    have ho3 : h'.SetOf (PySem.strKind prog w) b (Has xs (i + 1)) (if Has xs i (xs.getD i Str.empty) = true then c else c + 1) := by
      refine SetOf_congr ho2 (fun y => ?_) rfl
      rw [Bool.eq_iff_iff, has_iff, take_more ei, List.mem_append, List.mem_singleton, Bool.or_eq_true, has_iff, decide_eq_true_iff]
    refine wpAny_pure ⟨plainId_quiet PyProof.Rows.F.plain_set_update_loop _, ih (i + 1) _ (by omega) lt (W.frame _ s1 _ _ st1 (Nat.le_succ _) fun q hq o e => ?_) ⟨_, hc.more ei, ho3⟩ fun s2 c2 mv2 hc2 hS2 => ?_⟩
    · exact (same.2 q fun z => hb (z ▸ hq)).trans e
    · refine done s2 c2 (Moved.trans W.gtrans ((mv.mono wsub).then_heap (Nat.le_succ _) fun q o hq e => ?_) mv2) hc2 hS2
      exact (same.2 q fun z => hq (z ▸ List.mem_cons_self)).trans e
end
/-- a new set's object -/
def setObj (led : Bool) : Obj := { cls := .type "set", dict := none, data := .set #[] 0 (.fresh 0 0 led) }
section
variable {prog : Program} {w : World} {A : Around} {E : Value → Shared → Prop} {s : Shared}
/-- what set.__init__ does to a new set with a tuple of texts -/
theorem init_tx {l : Addr} {items : Array Value} {xs : List Str} {led : Bool} (hh : A.handled = none) (hl : s.heap.IsTuple l items) (hi : PyProof.Rows.StrsAre items.toList xs) (hx : xs.length + 1 < scanBound) :
    codeAny (model prog w) A (.call (.builtin "set.__init__") ⟨[.ref s.heap.objs.size, .ref l], []⟩)
      (wants (fun r s2 => r = .none ∧ ∃ h' tk c, s2 = { s with heap := h', toks := tk } ∧ Cnt xs xs.length c ∧ h'.SetOf (PySem.strKind prog w) s.heap.objs.size (Has xs xs.length) c ∧ (∀ q o, s.heap.get? q = some o → h'.get? q = some o)) E)
      { s with heap := s.heap.push (setObj led) } := by
  have hT : Shared.TypeIs { s with heap := s.heap.push (setObj led) } (.ref s.heap.objs.size) "set" := ⟨_, Heap.get?_push_size _ rfl, rfl⟩
  refine codeAny_call_builtin PySem.F.called_set.init.plain PySem.F.entry_set_init (check_set_init_1 hT ?_)
  obtain ⟨⟨kc, kd, kx, ks⟩, hol, hcl, nl, hdl⟩ := hl
  simp only at hcl hdl
  subst hcl hdl
  have hol' : (s.heap.push (setObj led)).get? l = some _ := Heap.get?_push_of_some _ hol
  have hl1 : (s.heap.push (setObj led)).IsTuple l items := ⟨_, hol', rfl, nl, rfl⟩
  have hsls := PySem.F.sub_tuple_set
  have hslf := PySem.F.sub_tuple_frozenset
  have hne : (Value.type "tuple" == Value.type "dict") = false := by decide
  unfold Builtin.«set.__init__» noKeywords Builtin.Frozenset.updateFrom
  generalize ePI : pyIter = PI
  wp_walk
  subst ePI
  refine wpAny_pyIter_tuple hl1 (wpAny_bind (wpAny_runValue ?_))
  have below : l < s.heap.objs.size := Heap.lt_size hol
  have nh : A.in1.in1.handled = none := by simp [hh]
  have z1 : (s.heap.push (setObj led)).objs.size = s.heap.objs.size + 1 := Heap.size_push ..
  have apart : l ≠ (s.heap.push (setObj led)).objs.size := by
    rw [z1]
    exact Nat.ne_of_lt (Nat.lt_succ_of_lt below)
  have out : s.heap.objs.size ∉ [(s.heap.push (setObj led)).objs.size, l] := by
    rw [List.mem_cons, List.mem_singleton, z1]
    exact fun q => q.elim (Nat.ne_of_lt (Nat.lt_succ_self _)) (Nat.ne_of_gt below)
  have zx : xs.length = items.size := by rw [← StrsAre.len_eq hi, Array.length_toList]
  refine loopTx ((Walks.tuple nh _ l apart items).toS) s.heap.objs.size out xs zx (zx ▸ hx) (fun i v e => SS.strs_at hi i v (Array.getElem?_toList ▸ e)) (items.size - 0) 0 _ (by omega) (Nat.zero_le _) ?at_ ?first ?last
  case at_ => exact ⟨⟨_, Heap.get?_push_size _ rfl, rfl, rfl⟩, hl1.push _⟩
  case first =>
    refine ⟨0, Cnt.nil xs, ?_⟩
    refine SetOf_congr ((PyProof.Rows.setObjOf_fresh (knd := PySem.strKind prog w) led).setOf (Heap.get?_push_of_some _ (Heap.get?_push_size _ rfl)) (by unfold scanBound; omega)) (fun y => ?_) rfl
    rfl
  case last =>
    rintro ⟨h', g', d', tk', os'⟩ c mv hc ho
    obtain rfl : g' = s.gens := mv.gens
    obtain rfl : d' = s.drawn := mv.drawn
    obtain rfl : os' = s.os := mv.os
    refine wpAny_pure (wpAny_pure ⟨rfl, h', tk', c, rfl, zx ▸ hc, zx ▸ ho, fun q o e => ?_⟩)
    have lq := Heap.lt_size e
    refine mv.heap q o (by rw [List.mem_cons, List.mem_singleton, z1]; exact fun z => z.elim (Nat.ne_of_lt lq) (Nat.ne_of_lt (Nat.lt_succ_of_lt lq))) (Heap.get?_push_of_some _ (Heap.get?_push_of_some _ e))
set_option maxHeartbeats 8000000 in
theorem call_set_tx {l : Addr} {items : Array Value} {xs : List Str} {Q : Value → Shared → Prop} (hh : A.handled = none) (hl : s.heap.IsTuple l items) (hi : PyProof.Rows.StrsAre items.toList xs) (hx : xs.length + 1 < scanBound)
    (h : ∀ (h' : Heap) (tk c : Nat), Cnt xs xs.length c → h'.SetOf (PySem.strKind prog w) s.heap.objs.size (Has xs xs.length) c → (∀ q o, s.heap.get? q = some o → h'.get? q = some o) → Q (.ref s.heap.objs.size) { s with heap := h', toks := tk }) :
    wpAny (model prog w) A (call (.type "set") [.ref l]) Q E s := by
  obtain ⟨_, _, hmro⟩ := PySem.F.called_set.mro
  have hmade := PySem.F.called_set.made
  have hsub := PySem.F.called_set.sub
  have h1 := PySem.F.called_set.notType
  have h2 := PySem.F.called_set.canCreate
  have hct := PySem.F.typeCall_set_1 (.ref l)
  refine wpAny_call (codeAny_of_tree (wpAny_pure (a := _) ⟨Code.quiet_builtin _ (by decide +kernel), codeAny_builtin PySem.F.entry_type_call ?_⟩))
  rw [Around.under_plain (weight_type_call_type "set" [.ref l] []) rfl]
  repeat (any_goals (first | assumption | wp_step))
  refine codeAny_mono (code_set_new_1 (.ref l) (E := E) (Q₁ := fun v s1 => ∃ led, v = .ref s.heap.objs.size ∧ s1 = { s with heap := s.heap.push (setObj led) }) fun led => ⟨led, rfl, rfl⟩) fun r s1 hr => ?_
  match r, hr with
  | .ok (.ret v), hr =>
    obtain ⟨led, rfl, rfl⟩ := hr
    have hS : (s.heap.push (setObj led)).get? s.heap.objs.size = some (setObj led) := Heap.get?_push_size _ rfl
    have hT : Shared.TypeIs { s with heap := s.heap.push (setObj led) } (.ref s.heap.objs.size) "set" := ⟨_, hS, rfl⟩
    have hli := PySem.F.called_set.init.lookup
    have hbi := PySem.F.called_set.init.bind (.ref s.heap.objs.size)
    repeat (any_goals (first | assumption | wp_step))
    refine codeAny_mono (init_tx (E := E) (by simp [hh]) hl hi hx) fun r s2 hr => ?_
    match r, hr with
    | .ok (.ret v), hr =>
      obtain ⟨rfl, h', tk, c, rfl, hc, ho, keep⟩ := hr
      repeat (any_goals (first | assumption | wp_step))
      exact h h' tk c hc ho keep
    | .error e, hr => exact hr
    | .ok .next, hr => exact hr.elim
    | .ok .brk, hr => exact hr.elim
    | .ok .cont, hr => exact hr.elim
  | .error e, hr => exact hr
  | .ok .next, hr => exact hr.elim
  | .ok .brk, hr => exact hr.elim
  | .ok .cont, hr => exact hr.elim
end
/-- len(set(t)), t a tuple of texts: how many different ones, so far as it matters here -/
def tLenSetTx (K : PySem.W.Frag) (ta : TE) : TE := fun σ H Q => ta σ H fun x H1 => ∃ (l : Addr) (xs : List Str), x = .ref l ∧ SqT K H1 l (xs.map V.str) ∧ xs.length < 64 ∧ ∀ c : Nat, c ≤ xs.length → (c = xs.length ↔ xs.Nodup) → Q (.int c) H1
theorem pe_lenSetTx {X : Cx} {a : Expr} {ta : TE} {p p2 q pos : Pos} (hg : Gl X "len") (hm : X.mg "len" = none) (hg2 : Gl X "set") (hm2 : X.mg "set" = none) (ha : PE X a ta) (hc : X.calm = true := by rfl)
    (na : starEach [a] X.env = (false, eval a X.env) :: starEach [] X.env := by rfl) : PE X (.Call (.Name "len" p) [.Call (.Name "set" p2) [a] [] q] [] pos) (tLenSetTx X.K ta) := by
  refine ⟨fun pins s σ H Q I h => Call_ (ld_blt I hg hm boot_len (PyProof.Rows.callWith_builtin1 (PyProof.Rows.args_cons (Call_ (ld_blt I hg2 hm2 boot_set (PyProof.Rows.callWith_type1 (PyProof.Rows.args_cons (thn (ha.run pins s σ H _ I h) fun v s1 ⟨x, H1, I1, r1, q1⟩ => PyProof.Rows.args_nil ?_) na) na rfl))) rfl) rfl rfl))⟩
  obtain ⟨l, xs, rfl, ht, few, q1⟩ := q1
  obtain rfl : v = Value.ref l := r1
  obtain ⟨its, rv, pl, _⟩ := I1.tuple ht
  refine call_set_tx (I1.ok.hd hc) pl (by simpa using strsAre_of rv) (by unfold scanBound; omega) fun h' tk c hcn hS keep => PyProof.Rows.args_nil ?_
  obtain ⟨o, es, ep, tb, ho, hex, hd, _, _, _, hf, hn⟩ := hS
  have I2 : Inv X pins σ H1 { s1 with heap := h', toks := tk } := I1.kept keep
  obtain ⟨c1, c2⟩ := hcn
  rw [List.take_length] at c2
  exact call_len_set ho hex hd hf (by rw [hn]; omega) ⟨.int c, H1, I2.tok _, ⟨_, by rw [hn]⟩, q1 c c1 c2⟩
end El

set_option Elab.async false
set_option linter.all false
set_option maxRecDepth 100000
set_option maxHeartbeats 4000000
/-! Own words: static methods and callable objects inside a try; exception classes that inherit their __init__. -/
namespace El
open PySem PySem.Spec PyProof.Rows L2
section
variable {X : Cx} {CX : CXT} {k : Nat} {C p g f : Addr} {mc : Value} {fd : FuncData} {ps : List Str} {sp : Sp} {E : L2.St → XK} {o e fe : Expr} {es : List Expr} {m : Str} {pos apos : Pos} {ta tf : TE} {t : TA} {pl : Sem Bool}
theorem code_fnS {pins : List (Addr × Obj)} {σ : L2.St} {H : Hp} {s : Shared} {Q : VK} {us : List Value} {vs : List V} (F : FnOk X.prog X.w X.K X.mg X.base CX k f fd ps sp) (hr : Room k X.A) (hb : Binds X.K fd ps []) (hx : PassesAt CX X σ (E σ))
    (I : Inv X pins σ H s) (r : Vals vs us) (h : sp vs H Q (E σ)) : codeAny (model X.prog X.w) X.A (.call (.ref f) ⟨us, []⟩) (fun r s' => match r with | .ok (.ret u) => EP X pins σ Q u s' | .error e => X.xe e s' | _ => False) s := by
  have hl : us.length = ps.length := by rw [← r.length]; exact F.len _ _ _ _ h
  have b := hb s us I.kIn (by rw [List.append_nil]; exact hl)
  rw [List.append_nil] at b
  refine codeAny_mono (F.run X.A X.stack s H ⟨us, []⟩ us vs Q (E σ) hr I.env0 b r h) fun r s' hq => ?_
  cases r with
  | error e => exact hx pins H s e s' I hq
  | ok fl =>
    cases fl with
    | ret u => exact I.after hq
    | next => exact False.elim hq
    | brk => exact False.elim hq
    | cont => exact False.elim hq
/-- C.m(e, ..), what it lets out being taken where it stands -/
def tSMS (C : Addr) (sp : Sp) (E : L2.St → XK) (ta : TE) (t : TA) : TE := fun σ H Q => ta σ H fun x H1 => x = .ref C ∧ t σ H1 fun vs H2 => sp vs H2 Q (E σ)
theorem pe_smethS (he : PE X o ta) (r : ClX.CRead X.K C mc) (c : SMet X.K C mc m p g) (F : FnOk X.prog X.w X.K X.mg X.base CX k g fd ps sp) (hr : Room k X.A) (hb : Binds X.K fd ps []) (hx : ∀ σ, PassesAt CX X σ (E σ)) (ha : PA X (e :: es) t)
    (hst : starEach (e :: es) X.env = (false, eval e X.env) :: starEach es X.env := by rfl) (hpl : (backTo pos (starEach es X.env)).any (·.1) = false := by rfl)
    (ht : eval (.Call (.Attribute o m apos) (e :: es) [] pos) X.env = (do
      let ov ← eval o X.env
      standAt apos.atName
      let (f, first) ← holding [ov] (getMethod ov m pl)
      callWith pos f first (backTo pos (starEach (e :: es) X.env)) (backToKw pos (keywordEach [] X.env))) := by rfl) :
    PE X (.Call (.Attribute o m apos) (e :: es) [] pos) (tSMS C sp E ta t) := by
  refine ⟨fun pins s σ H Q I h => ?_⟩
  refine PySem.W.methodCall_KW (pl := pl) (thn (he.run pins s σ H _ I h) fun u s1 ⟨x, H1, I1, rx, ex, q⟩ => ?_) ht
  subst ex
  obtain rfl : u = Value.ref C := rx
  refine getsm_ok I1 r c fun s2 I2 => ?_
  refine PySem.W.callWith_K (h₀ := X.base) I2.ok.mod.kin c.kp (thn (ha.run pos pins s2 σ H1 _ I2 q) fun us s3 ⟨vs, H2, I3, rv, q2⟩ => ⟨I3.kIn, ?_⟩) hst hpl
  exact run_fnS F hr hb (hx σ) I3 rv q2
/-- f(e, ..), f an instance of C, what it lets out being taken where it stands -/
def tCallOS (C : Addr) (sp : Sp) (E : L2.St → XK) (tf : TE) (t : TA) : TE := fun σ H Q => tf σ H fun y H1 => ∃ a, y = V.ref a ∧ t σ H1 fun vs H2 => (∃ dx fs, H2 a = some (.ins C dx fs)) ∧ sp (V.ref a :: vs) H2 Q (E σ)
theorem pe_callOS (hf : PE X fe tf) (c : StX.CallO X.K C g) (F : FnOk X.prog X.w X.K X.mg X.base CX k g fd ps sp) (hb : Binds X.K fd ps []) (hr : Room k X.A) (hx : ∀ σ, PassesAt CX X σ (E σ)) (ha : PA X (e :: es) t)
    (ht : eval (.Call fe (e :: es) [] pos) X.env = (do callWith pos (← eval fe X.env) [] (backTo pos (starEach (e :: es) X.env)) (backToKw pos (keywordEach [] X.env))) := by rfl)
    (he : starEach (e :: es) X.env = (false, eval e X.env) :: starEach es X.env := by rfl) (hpl : (backTo pos (starEach es X.env)).any (·.1) = false := by rfl) : PE X (.Call fe (e :: es) [] pos) (tCallOS C sp E tf t) := by
  refine ⟨fun pins s σ H Q I h => ?_⟩
  refine Call_ (thn (hf.run pins s σ H _ I h) fun u s1 ⟨y, H1, I1, ry, a, ey, q⟩ => ?_) ht
  subst ey
  obtain rfl : u = Value.ref a := ry
  refine StX.callO_with (thn (ha.run pos pins s1 σ H1 _ I1 q) fun us s2 ⟨vs, H2, I2, r, hi, q2⟩ => ?_) he hpl
  obtain ⟨ox, od, J, hd⟩ := StX.insC_at I2 (.inr hi)
  refine ⟨⟨C, ox, od, J, hd⟩, ?_⟩
  refine wpAny_call (PySem.W.kco_code I2.kIn J hd c.at_ c.fn c.fi (codeAny_mono (code_fnS (us := .ref a :: us) (vs := .ref a :: vs) F hr hb (hx σ) I2 (.cons rfl r) q2) fun r s' h => ?_))
  cases r with
  | error e => exact h
  | ok fl =>
    cases fl with
    | ret u => exact h
    | next => exact False.elim h
    | brk => exact False.elim h
    | cont => exact False.elim h
end

/-! ### an exception class C whose __init__ is that of D above it -/
open NdefX
structure ExI (K : PySem.W.Frag) (C D fI : Addr) (fields : List Str) : Prop where
  oex : OexC K C
  sup : PySem.W.ks_superIn K C D "__init__" = some (some (.builtin "ValueError.__init__"))
  subV : PySem.W.subIn K (.ref C) (.type "ValueError") = some true
  mro : PySem.W.mroIn K C (.ref D) = some true
  iC : PySem.W.findIn K (.ref C) "__init__" = some (some (.ref fI))
  tI : PySem.W.typeIn K (.ref fI) = some (.type "function")
  no : ∀ f ∈ fields, PySem.W.findIn K (.ref C) f = some none
  xf : XfC K C
  is : ExcC K C
theorem exi_mk {K : PySem.W.Frag} {C D fI N : Addr} {fields : List Str} {nm q : Str} {bs bm : List Value} {sn : List Str} {sub : List Value} {ab : Bool} {col : Option Bool} {dd : Option Addr} {k0 k1 k2 k3 k5 : Option Value}
    (cls : K.lookup C = some (excClassObj nm q C N bs bm true sn sub ab col dd k0 k1 k2 k3 k5 "ValueError.__new__")) (ref : PySem.HandSPX.refsVE bm = true)
    (sa : PySem.W.findIn K (.ref C) "__setattr__" = some (some (.builtin "object.__setattr__"))) (exC : PySem.W.subIn K (.ref C) (.type "BaseException") = some true) (tyC : PySem.W.typeIn K (.ref C) = some (.type "type")) (kC : PySem.W.keepIn K (.ref C) = true)
    (sup : PySem.W.ks_superIn K C D "__init__" = some (some (.builtin "ValueError.__init__"))) (subV : PySem.W.subIn K (.ref C) (.type "ValueError") = some true) (mro : PySem.W.mroIn K C (.ref D) = some true)
    (iC : PySem.W.findIn K (.ref C) "__init__" = some (some (.ref fI))) (tI : PySem.W.typeIn K (.ref fI) = some (.type "function")) (no : ∀ f ∈ fields, PySem.W.findIn K (.ref C) f = some none)
    (ga : PySem.W.findIn K (.ref C) "__getattribute__" = some (some (.builtin "BaseException.__getattribute__"))) (gg : PySem.W.findIn K (.ref C) "__getattr__" = some none) (hd : PySem.W.hasDictIn K C = true)
    (hcl : PySem.W.findIn K (.ref C) "__class__" = some (some (.builtin "object.__class__"))) (hn : PySem.W.specialIn K (.builtin "object.__class__") "__get__" = some (some (.builtin "getset_descriptor.__get__"))) (ht : PySem.W.takesIn K (.builtin "object.__class__") = some true) (hm : PySem.W.mroIn K C (.type "object") = some true) : ExI K C D fI fields :=
  ⟨⟨⟨nm, q, N, bs, bm, sn, sub, ab, col, dd, k0, k1, k2, k3, k5, cls, ref⟩, sa, exC, tyC, kC⟩, sup, subV, mro, iC, tI, no, ⟨ga, gg, exC, hd⟩, ⟨ga, gg, exC, hd, hcl, hn, ht, hm⟩⟩
structure CalEI (P : Program) (w : World) (K : PySem.W.Frag) (mg : Str → Option Value) (base : Heap) (k : Nat) (x : Str) (C f : Addr) (fd : FuncData) (ps : List Str) (ok : List V → Prop) (fs : List V → List (Str × V)) (fields : List Str) : Prop where
  G : FnOk P w K mg base CX0 k f fd ps (spE C ok fs)
  b : Binds K fd ps []
  X : ∃ D, ExI K C D f fields
  m : mg x = some (.ref C)
theorem CalEI.oex {P : Program} {w : World} {K : PySem.W.Frag} {mg : Str → Option Value} {base : Heap} {k : Nat} {x : Str} {C f : Addr} {fd : FuncData} {ps : List Str} {ok : List V → Prop} {fs : List V → List (Str × V)} {fields : List Str} (c : CalEI P w K mg base k x C f fd ps ok fs fields) : OexC K C := by obtain ⟨D, X⟩ := c.X; exact X.oex
theorem CalEI.iC {P : Program} {w : World} {K : PySem.W.Frag} {mg : Str → Option Value} {base : Heap} {k : Nat} {x : Str} {C f : Addr} {fd : FuncData} {ps : List Str} {ok : List V → Prop} {fs : List V → List (Str × V)} {fields : List Str} (c : CalEI P w K mg base k x C f fd ps ok fs fields) : PySem.W.findIn K (.ref C) "__init__" = some (some (.ref f)) := by obtain ⟨D, X⟩ := c.X; exact X.iC
theorem CalEI.tI {P : Program} {w : World} {K : PySem.W.Frag} {mg : Str → Option Value} {base : Heap} {k : Nat} {x : Str} {C f : Addr} {fd : FuncData} {ps : List Str} {ok : List V → Prop} {fs : List V → List (Str × V)} {fields : List Str} (c : CalEI P w K mg base k x C f fd ps ok fs fields) : PySem.W.typeIn K (.ref f) = some (.type "function") := by obtain ⟨D, X⟩ := c.X; exact X.tI
/-! ### characters whose repr is bounded -/
def Asc (z : Str) : Prop := ∀ c ∈ z.cps.toList, c < 16 ^ 8
theorem repr_le {z : Str} (h : Asc z) (hl : z.length ≤ 1000) : (reprText z).length ≤ 10002 := Nat.le_trans (PySem.StrLaws.reprText_len z h) (by omega)
end El

set_option Elab.async false
set_option linter.all false
set_option maxRecDepth 100000
set_option maxHeartbeats 4000000
/-! Own words: len(set(t)) of a tuple of tuples of texts. -/
namespace El
open PySem PySem.Spec PyProof.Rows L2

/-! ### the way of a search, said of places alone -/
abbrev stt (t : SetTable) (h : Int) (c : Nat) : SetTable.Probe := nth t.mask (runAt t.mask (SetTable.bits h % (t.mask + 1)) (SetTable.bits h)) c
theorem stt_on (t : SetTable) (h : Int) (c q : Nat) : nth t.mask (stt t h c) q = stt t h (c + q) := (nth_add t.mask c _ q).symm
theorem adv_clean {m : Nat} {p : SetTable.Probe} (h : p.dummy = none) : (adv m p).dummy = none := by
  unfold adv
  split
  · exact h
  · exact h
theorem nth_clean (m : Nat) : ∀ (n : Nat) (p : SetTable.Probe), p.dummy = none → (nth m p n).dummy = none
  | 0, _, h => h
  | n + 1, p, h => nth_clean m n (adv m p) (adv_clean h)
theorem probe_at {t : SetTable} {rows : List Int} (T : TabOk t rows) (at_ : Nat → Int) (h : Int) {K c : Nat} (kf : K < 10 * SetTable.turns t.mask) (kn : way t.mask h K ∉ t.place.toList) (kb : ∀ q, q < K → way t.mask h q ∈ t.place.toList) (hc : c ≤ K) :
    (∃ q i, c ≤ q ∧ q < K ∧ t.place.toList[i]? = some (way t.mask h q) ∧ at_ i = h ∧ (∀ q' i', c ≤ q' → q' < q → t.place.toList[i']? = some (way t.mask h q') → at_ i' ≠ h) ∧ t.probe at_ h (stt t h c) = some (.candidate (way t.mask h q) i (stt t h (q + 1)))) ∨
    ((∀ q' i', c ≤ q' → q' < K → t.place.toList[i']? = some (way t.mask h q') → at_ i' ≠ h) ∧ t.probe at_ h (stt t h c) = some (.empty (way t.mask h K) none)) := by
  have mv : ∀ q, (nth t.mask (stt t h c) q).j = way t.mask h (c + q) := fun q => congrArg SetTable.Probe.j (stt_on t h c q)
  have back : ∀ q', c ≤ q' → way t.mask h q' = (nth t.mask (stt t h c) (q' - c)).j := fun q' hq => by
    rw [mv]
    exact congrArg (way t.mask h) (by omega)
  rcases go_spec t T.ris T.dm at_ h (10 * SetTable.turns t.mask) (K - c) (stt t h c) (nth_clean _ _ _ rfl) (by omega) (fun q hq => by rw [mv]; exact kb _ (by omega)) (by rw [← back K hc]; exact kn) with ⟨q, i, l, e1, e2, free, e3⟩ | ⟨free, e3⟩
  · refine .inl ⟨c + q, i, Nat.le_add_right _ _, by omega, by rw [← mv]; exact e1, e2, fun q' i' a b d => free (q' - c) i' (by omega) (by rw [← back q' a]; exact d), ?_⟩
    rw [mv, stt_on] at e3
    exact e3
  · refine .inr ⟨fun q' i' a b d => free (q' - c) i' (by omega) (by rw [← back q' a]; exact d), ?_⟩
    rw [← back K hc] at e3
    exact e3

section
variable {P : Program} {w : World} {A : Around} {E : Value → Shared → Prop} {s : Shared}
/-- the tuple at b holds the texts k -/
abbrev Tk (P : Program) (w : World) (h : Heap) (k : List Str) (b : Addr) : Prop := IsTupleKey (PySem.strKind P w) h k b
abbrev hs (P : Program) (w : World) (k : List Str) : Int := tupleKeyHash (PySem.strKind P w) k
def Txs (vs : List Value) : Prop := ∀ v ∈ vs, ∃ x t, v = Value.str x t
theorem Txs.of {k : List Str} {vs : List Value} (h : ItemsAre (PySem.strKind P w) k vs) : Txs vs := by
  induction h with
  | nil => exact fun _ z => nomatch z
  | cons one _ more =>
    intro v hv
    cases hv with
    | head => obtain ⟨t, e⟩ := Value.isStrOf_shape one; exact ⟨_, t, e⟩
    | tail _ hv => exact more v hv
theorem Txs.tl {v : Value} {vs : List Value} (h : Txs (v :: vs)) : Txs vs := fun u hu => h u (List.mem_cons_of_mem _ hu)
theorem class_tx (n : Nat) (x : Str) (t : PySem.Tok) : ofAClassStatement n (.str x t) = pure false := by cases n <;> rfl
theorem byval_tx (n : Nat) (x : Str) (t : PySem.Tok) : hashByValue n (.str x t) = pure false := by cases n <;> simp [hashByValue]
theorem class_tk {k : List Str} {b : Addr} {Q : Bool → Shared → Prop} (hk : Tk P w s.heap k b) (q : Q false s) : wpAny (model P w) A (ofAClassStatement 8 (.ref b)) Q E s := by
  have ty := hk.typeIs
  obtain ⟨ob, its, c, e1, _, e2, e3⟩ := hk
  have tx := Txs.of e3
  unfold ofAClassStatement
  refine wpAny_bind (wpAny_typeOf ty ?_)
  have same : (("tuple" : String) == "tuple") = true := by decide
  simp only [same, if_true, Bool.not_true, Bool.false_eq_true, if_false]
  try refine wpAny_bind (wpAny_pure ?_)
  try simp only [Bool.not_true, Bool.false_eq_true, if_false]
  refine wpAny_bind (m := seqItems? (.ref b)) (wpAny_seqItems e1 e2 ?_)
  refine wpAny_bind ?_
  show wpAny _ _ (forIn its _ _) _ _ s
  rw [← Array.forIn_toList]
  refine wpAny_forIn_list _ (fun left st s1 => Txs left ∧ st.1 = none ∧ s1 = s) _ (fun v left st s1 => ?_) (fun st s1 => ?_) _ _ ⟨tx, rfl, rfl⟩
  · rintro ⟨tx, e, rfl⟩
    obtain ⟨x, t, rfl⟩ := tx v List.mem_cons_self
    rw [class_tx]
    refine wpAny_bind (wpAny_pure ?_)
    simp only [Bool.false_eq_true, if_false]
    exact wpAny_pure ⟨tx.tl, rfl, rfl⟩
  · obtain ⟨u1, u2⟩ := st
    rintro ⟨_, e, rfl⟩
    cases (show u1 = none from e)
    exact wpAny_pure q
theorem byval_tk {k : List Str} {b : Addr} {Q : Bool → Shared → Prop} (hk : Tk P w s.heap k b) (q : ∀ c, Q c s) : wpAny (model P w) A (hashByValue 8 (.ref b)) Q E s := by
  have ty := hk.typeIs
  obtain ⟨ob, its, c, e1, _, e2, e3⟩ := hk
  have tx := Txs.of e3
  unfold hashByValue
  refine wpAny_bind (wpAny_specialOf ty PySem.F.slot_tuple_hash.lookup ?_)
  refine wpAny_bind (m := seqItems? (.ref b)) (wpAny_seqItems e1 e2 ?_)
  refine wpAny_bind ?_
  show wpAny _ _ (forIn its _ _) _ _ s
  rw [← Array.forIn_toList]
  refine wpAny_forIn_list _ (fun left st s1 => Txs left ∧ s1 = s) _ (fun v left st s1 => ?_) (fun st s1 => ?_) _ _ ⟨tx, rfl⟩
  · rintro ⟨tx, rfl⟩
    obtain ⟨x, t, rfl⟩ := tx v List.mem_cons_self
    rw [byval_tx]
    refine wpAny_bind (wpAny_pure ?_)
    simp only [Bool.not_false, if_true]
    exact wpAny_pure (wpAny_pure (q _))
  · obtain ⟨u1, u2⟩ := st
    rintro ⟨_, rfl⟩
    cases u1 with
    | none => exact wpAny_pure (q _)
    | some c => exact wpAny_pure (q _)
def Tks (P : Program) (w : World) (h : Heap) (vs : List Value) : Prop := ∀ v ∈ vs, ∃ k b, v = Value.ref b ∧ Tk P w h k b
theorem seen_tk {k : List Str} {b : Addr} {Q : Bool → Shared → Prop} (hk : Tk P w s.heap k b) {vs : List Value} (hv : Tks P w s.heap vs) (q : Q false s) : wpAny (model P w) A (searchCouldBeSeen (.ref b) vs) Q E s := by
  unfold searchCouldBeSeen
  refine wpAny_bind (wpAny_forIn_list _ (fun left st s1 => Tks P w s.heap left ∧ st.1 = none ∧ s1 = s) _ (fun v left st s1 => ?_) (fun st s1 => ?_) _ _ ⟨hv, rfl, rfl⟩)
  · rintro ⟨hv, e, rfl⟩
    obtain ⟨k2, c, rfl, hc⟩ := hv v List.mem_cons_self
    have fin : Tks P w s1.heap left ∧ (none : Option Bool) = none ∧ s1 = s1 := ⟨fun u hu => hv u (List.mem_cons_of_mem _ hu), rfl, rfl⟩
    dsimp only
    by_cases z : (b == c || (carriedByValue (.ref b) && carriedByValue (.ref c))) = true
    · exact wp_if_pos z (wpAny_pure fin)
    · refine wp_if_neg z (wpAny_bind (wpAny_eqIsQuiet_tuple hk ?_))
      simp only [Bool.not_true, Bool.false_eq_true, if_false]
      refine wpAny_bind (wpAny_eqIsQuiet_tuple hc ?_)
      simp only [Bool.not_true, Bool.false_eq_true, if_false]
      refine wpAny_bind (class_tk hk ?_)
      simp only [Bool.false_eq_true, if_false]
      refine wpAny_bind (class_tk hc ?_)
      simp only [Bool.false_eq_true, if_false]
      exact wpAny_pure fin
  · obtain ⟨u1, u2⟩ := st
    rintro ⟨_, e, rfl⟩
    cases (show u1 = none from e)
    exact wpAny_pure q

/-! ### a set of tuples of texts -/
def row (P : Program) (w : World) (p : Addr × List Str) : Int × Value := (hs P w p.2, Value.ref p.1)
structure Bag (P : Program) (w : World) (h : Heap) (a : Addr) (L : List (Addr × List Str)) (es : Array (Int × Value)) (ep : Nat) (t : SetTable) : Prop where
  ob : ∃ o, h.get? a = some o ∧ o.ExactSet ∧ o.data = .set es ep t
  rows : es.toList = L.map (row P w)
  tab : TabOk t (L.map fun p => hs P w p.2)
  led : w.params.followText "set-order" = true ∨ t.led = true
  room : L.length * 5 < t.mask * 3
  few : L.length < 64
  tk : ∀ p ∈ L, Tk P w h p.2 p.1
  nd : (L.map (·.2)).Nodup
variable {a : Addr} {L : List (Addr × List Str)} {es : Array (Int × Value)} {ep : Nat} {t : SetTable}
theorem size_rows (e : es.toList = L.map (row P w)) : es.size = L.length := by
  rw [← Array.length_toList, e, List.length_map]
theorem fits_of (e : es.toList = L.map (row P w)) (z : t.place.size = L.length) (d : t.dummies = #[]) (l : L.length ≤ t.mask) : t.fits es.size = true := by
  unfold SetTable.fits SetTable.fill
  rw [d, size_rows e, z, Bool.and_eq_true, beq_iff_eq, decide_eq_true_eq]
  exact ⟨rfl, l⟩
theorem Bag.szp (B : Bag P w s.heap a L es ep t) : t.place.size = L.length := by rw [B.tab.sz, List.length_map]
theorem Bag.lem (B : Bag P w s.heap a L es ep t) : L.length ≤ t.mask := by have := B.room; omega
theorem Bag.fits (B : Bag P w s.heap a L es ep t) : t.fits es.size = true := fits_of B.rows B.szp B.tab.dm B.lem
theorem row_at (e : es.toList = L.map (row P w)) {i : Nat} {p : Addr × List Str} (h : L[i]? = some p) : es[i]? = some (row P w p) := by
  rw [← Array.getElem?_toList, e, List.getElem?_map, h]
  rfl
/-- the search for k from step c of its way on -/
theorem seek (B : Bag P w s.heap a L es ep t) {x : Addr} {k : List Str} (hx : Tk P w s.heap k x) (hu : A.units < cLine) {K : Nat} (kf : K < 10 * SetTable.turns t.mask) (kn : way t.mask (hs P w k) K ∉ t.place.toList) (kb : ∀ q, q < K → way t.mask (hs P w k) q ∈ t.place.toList)
    {Q : SetFound → Shared → Prop} (yes : k ∈ L.map (·.2) → Q (.there none) s) (no : k ∉ L.map (·.2) → Q (.free (way t.mask (hs P w k) K) false) s) :
    ∀ (f c : Nat) (from_ : Option SetTable.Probe), from_.getD (t.probeStart (hs P w k)) = stt t (hs P w k) c → c ≤ K → K - c < f →
      (∀ (i : Nat) (p : Addr × List Str), L[i]? = some p → p.2 = k → ∃ q, c ≤ q ∧ q < K ∧ t.place.toList[i]? = some (way t.mask (hs P w k) q)) → wpAny (model P w) A (setSearchFrom a (.ref x) (hs P w k) true f from_) Q E s := by
  intro f
  induction f with
  | zero => exact fun c _ _ _ h => absurd h (Nat.not_lt_zero _)
  | succ f ih =>
    intro c from_ ef hc hf ahead
    obtain ⟨o, e1, e2, e3⟩ := B.ob
    have ld : ∀ {R : Array (Int × Value) × Nat × SetTable → Shared → Prop}, R (es, ep, t) s → wpAny (model P w) A (setState a) R E s := fun r => wpAny_setState_of e1 e3 B.fits r
    rw [setSearchFrom_succ]
    refine wpAny_bind (ld ?_)
    dsimp only
    refine wp_if_neg (by unfold SetTable.gaveWay; rw [mask_odd B.tab.mok]; decide) ?_
    try refine wpAny_bind (wpAny_pure ?_)
    have hat : ∀ (i : Nat) (p : Addr × List Str), L[i]? = some p → (fun i : Nat => (es[i]?.map (·.1)).getD 0) i = hs P w p.2 := fun i p hp => by
      show (es[i]?.map (·.1)).getD 0 = _
      rw [row_at B.rows hp]
      rfl
    rw [ef]
    rcases probe_at B.tab (fun i : Nat => (es[i]?.map (·.1)).getD 0) (hs P w k) kf kn kb hc with ⟨q, i, l1, l2, hi, hh, clear, pr⟩ | ⟨clear, pr⟩
    · rw [pr]
      dsimp only
      have il : i < L.length := by
        have h1 := (List.getElem?_eq_some_iff.mp hi).1
        rw [Array.length_toList, B.szp] at h1
        exact h1
      obtain ⟨p, hp⟩ : ∃ p, L[i]? = some p := ⟨_, List.getElem?_eq_getElem il⟩
      have pm := List.mem_of_getElem? hp
      have go : wpAny (model P w) A (searchRest a (.ref x) (hs P w k) true f es t (way t.mask (hs P w k) q) i (stt t (hs P w k) (q + 1))) Q E s := by
        unfold searchRest
        rw [row_at B.rows hp]
        dsimp only [row]
        refine wpAny_bind (wpAny_holding (wpAny_eqBool_tuple hu (B.tk p pm) hx (wpAny_bind (ld ?_))))
        dsimp only
        by_cases hk : p.2 = k
        · exact wp_if_pos (by simp [hk]) (wpAny_pure (yes (List.mem_map.mpr ⟨p, pm, hk⟩)))
        refine wp_if_neg (by simp [hk]) ?_
        try refine wpAny_bind (wpAny_pure ?_)
        rw [sameMem]
        have live : t.slot (way t.mask (hs P w k) q) = .live i := slot_live B.tab.ris hi
        simp only [if_true, live, row_at B.rows hp, row]
        refine wpAny_bind (wpAny_isSame_ref_self (wpAny_bind (wpAny_pure ?_)))
        simp only [if_true]
        refine wp_if_neg (by simp [hk]) (ih (q + 1) _ rfl l2 (by omega) fun i0 p0 h0 k0 => ?_)
        obtain ⟨q0, a1, a2, a3⟩ := ahead i0 p0 h0 k0
        refine ⟨q0, Nat.lt_of_le_of_ne (Nat.le_of_not_lt fun z => clear q0 i0 a1 z a3 ((hat i0 p0 h0).trans (congrArg (hs P w) k0))) fun z => hk ?_, a2, a3⟩
        have s0 := slot_live B.tab.ris a3
        rw [← z, live] at s0
        cases s0
        cases hp.symm.trans h0
        exact k0
      by_cases hl : t.led = true
      · refine wp_if_neg (by simp [hl]) ?_
        try refine wpAny_bind (wpAny_pure ?_)
        exact go
      · refine wp_if_pos (by simp [hl]) (wpAny_bind (seen_tk hx (fun v hv => ?_) ?_))
        · obtain ⟨r, hr, rfl⟩ := List.mem_map.mp hv
          have hr : r ∈ es := (by simpa using hr : r ∈ es ∧ r.1 = hs P w k).1
          have hr : r ∈ es.toList := by simpa using hr
          rw [B.rows] at hr
          obtain ⟨p2, m2, rfl⟩ := List.mem_map.mp hr
          exact ⟨p2.2, p2.1, rfl, B.tk p2 m2⟩
        · refine wp_if_neg (by decide) ?_
          try refine wpAny_bind (wpAny_pure ?_)
          exact go
    · rw [pr]
      refine wpAny_pure (no fun hm => ?_)
      obtain ⟨p0, m0, k0⟩ := List.mem_map.mp hm
      obtain ⟨i0, l0, h0⟩ := List.getElem_of_mem m0
      have h0 : L[i0]? = some p0 := by rw [List.getElem?_eq_getElem l0, h0]
      obtain ⟨q0, a1, a2, a3⟩ := ahead i0 p0 h0 k0
      exact clear q0 i0 a1 a2 a3 ((hat i0 p0 h0).trans (congrArg (hs P w) k0))
theorem sought (B : Bag P w s.heap a L es ep t) {x : Addr} {k : List Str} (hx : Tk P w s.heap k x) (hu : A.units < cLine) {Q : SetFound → Shared → Prop} (yes : k ∈ L.map (·.2) → Q (.there none) s)
    (no : ∀ K, k ∉ L.map (·.2) → way t.mask (hs P w k) K ∉ t.place.toList → (∀ q, q < K → way t.mask (hs P w k) q ∈ t.place.toList) → Q (.free (way t.mask (hs P w k) K) false) s) :
    wpAny (model P w) A (setSearch a (.ref x) (hs P w k) true) Q E s := by
  obtain ⟨K, kf, kn, kb⟩ := B.tab.first (by rw [List.length_map]; exact B.lem) (hs P w k)
  have small : K < 100000 := by
    have : SetTable.turns t.mask ≤ 142 := by
      unfold SetTable.turns
      rcases B.tab.mok with e | e | e <;> omega
    omega
  refine seek B hx hu kf kn kb yes (fun n => no K n kn kb) 100000 0 none rfl (Nat.zero_le _) small fun i p hp hk => ?_
  have il : i < t.place.toList.length := by
    rw [Array.length_toList, B.szp]
    exact (List.getElem?_eq_some_iff.mp hp).1
  obtain ⟨q, l, e⟩ := B.tab.before (h := hs P w k) kn (by rw [List.getElem?_map, hp, ← hk]; rfl) (List.getElem?_eq_getElem il)
  exact ⟨q, Nat.zero_le _, l, by rw [e]; exact List.getElem?_eq_getElem il⟩

/-! ### the table laid anew -/
theorem all_of_range {α : Type} : ∀ L : List α, (List.range L.length).filterMap (fun i => L[i]?) = L
  | [] => rfl
  | x :: r => by
    rw [List.length_cons, List.range_succ_eq_map, List.filterMap_cons_some (f := fun i => (x :: r)[i]?) (b := x) rfl, List.filterMap_map]
    exact congrArg (x :: ·) (all_of_range r)
theorem picked {f : Addr × List Str → Int} (g : Nat → Int) (hg : ∀ (i : Nat) (p : Addr × List Str), L[i]? = some p → g i = f p) : ∀ l : List Nat, (∀ i ∈ l, i < L.length) → (l.filterMap fun i => L[i]?).map f = l.map g
  | [], _ => rfl
  | i :: l, h => by
    obtain ⟨p, e⟩ : ∃ p, L[i]? = some p := ⟨_, List.getElem?_eq_getElem (h i List.mem_cons_self)⟩
    rw [List.filterMap_cons_some e, List.map_cons, List.map_cons, picked g hg l fun j hj => h j (List.mem_cons_of_mem _ hj), hg i p e]
theorem tk_but {h h' : Heap} {k : List Str} {b : Addr} {o : Obj} (z : Tk P w h k b) (ho : h.get? a = some o) (hd : o.data = .set es ep t) (sb : Heap.SameBut a h h') : Tk P w h' k b := by
  obtain ⟨o2, its, c, e1, e2, e3, e4⟩ := z
  refine ⟨o2, its, c, (sb.2 b fun e => ?_).trans e1, e2, e3, e4⟩
  cases (e ▸ e1 : h.get? a = some o2).symm.trans ho
  rw [hd] at e3
  cases e3
theorem relaid_at {o : Obj} (ho : s.heap.get? a = some o) (hx : o.ExactSet) (hd : o.data = .set es ep t) (rows : es.toList = L.map (row P w)) (zp : t.place.size = L.length) (dm : t.dummies = #[]) (lm : L.length ≤ t.mask)
    (led : w.params.followText "set-order" = true ∨ t.led = true) (few : L.length < 64) (tk : ∀ p ∈ L, Tk P w s.heap p.2 p.1) (nd : (L.map (·.2)).Nodup) {wanted M : Nat} (hw : SetTable.sizeAbove wanted = M + 1) (mok : MaskOk M) (room : L.length * 5 < M * 3)
    {Q : Unit → Shared → Prop} (q : ∀ h' L' es' ep' t', Heap.SameBut a s.heap h' → Bag P w h' a L' es' ep' t' → L'.Perm L → Q () { s with heap := h' }) : wpAny (model P w) A (setRelay a wanted) Q E s := by
  have zs := size_rows rows
  have M128 : M + 1 ≤ 128 := by rcases mok with e | e | e <;> omega
  obtain ⟨t2, order, e1, pm, T, em, el, _, _⟩ := relaid_ok t (hs := es.map (·.1)) (wanted := wanted) (by rw [hw]; rfl) mok (by rw [Array.size_map, zs]; omega)
  rw [Array.size_map, zs] at pm
  have below : ∀ i ∈ order.toList, i < L.length := fun i hi => List.mem_range.mp (pm.mem_iff.mp hi)
  have same : ∀ i : Nat, es[i]? = (L[i]?).map (row P w) := fun i => by rw [← Array.getElem?_toList, rows, List.getElem?_map]
  have rows2 : (order.filterMap (es[·]?)).toList = (order.toList.filterMap fun i => L[i]?).map (row P w) := by
    rw [Array.toList_filterMap, List.map_filterMap]
    exact congrArg (fun f => List.filterMap f order.toList) (funext same)
  have pl : (order.toList.filterMap fun i => L[i]?).Perm L := by
    have z := pm.filterMap fun i => L[i]?
    rw [all_of_range] at z
    exact z
  rw [← picked (L := L) (f := fun p => hs P w p.2) _ (fun i p hp => by
    have z : (es.map (·.1))[i]? = some (hs P w p.2) := by
      rw [Array.getElem?_map, same, hp]
      rfl
    rw [Array.getD_eq_getD_getElem?, z]
    rfl) order.toList below] at T
  generalize (order.toList.filterMap fun i => L[i]?) = L2 at rows2 pl T
  have z2 : (order.filterMap (es[·]?)).size = es.size := by rw [size_rows rows2, zs, pl.length_eq]
  rw [setRelay_eq]
  refine wpAny_bind (wpAny_setState_of ho hd (fits_of rows zp dm lm) ?_)
  dsimp only
  refine wp_if_neg (by rw [hw, sizeLine_eq]; omega) ?_
  try refine wpAny_bind (wpAny_pure ?_)
  rw [e1]
  refine wpAny_bind (wp_if_neg (by rw [z2]; simp) ?_)
  try refine wpAny_bind (wpAny_pure ?_)
  refine wpAny_pure (wpAny_storeSet_of ho hd ?_ (by rw [z2, zs, sizeLine_eq]; omega))
  have sb : Heap.SameBut a s.heap (s.heap.update a (Obj.putSet (order.filterMap (es[·]?)) t2)) := Heap.SameBut.update ..
  refine q _ L2 _ (ep + 1) t2 sb ⟨⟨_, store_at ho hd, ⟨hx.1, hx.2.1, hx.2.2⟩, rfl⟩, rows2, T, by rw [el]; exact led, by rw [pl.length_eq, em]; exact room, by rw [pl.length_eq]; exact few, fun p hp => tk_but (tk p (pl.mem_iff.mp hp)) ho hd sb, ?_⟩ pl
  exact (pl.map (·.2)).nodup_iff.mpr nd

/-! ### one more -/
theorem tab_plain {t : SetTable} {rows : List Int} (T : TabOk t rows) (b : Bool) : TabOk { t with plain := b } rows := ⟨T.ris, T.dm, T.sz, T.mok, T.bd, T.reach⟩
theorem added (B : Bag P w s.heap a L es ep t) {x : Addr} {k : List Str} (hx : Tk P w s.heap k x) (hu : A.units < cLine) (few : L.length + 1 < 64) {Q : Bool → Shared → Prop}
    (q : ∀ b h' L' es' ep' t', Heap.SameBut a s.heap h' → Bag P w h' a L' es' ep' t' → (k ∈ L.map (·.2) → L' = L) → (k ∉ L.map (·.2) → L'.Perm ((x, k) :: L)) → Q b { s with heap := h' }) :
    wpAny (model P w) A (setAddHashed a (.ref x) (hs P w k)) Q E s := by
  obtain ⟨o, e1, e2, e3⟩ := B.ob
  have ld : ∀ {R : Array (Int × Value) × Nat × SetTable → Shared → Prop}, R (es, ep, t) s → wpAny (model P w) A (setState a) R E s := fun r => wpAny_setState_of e1 e3 B.fits r
  unfold setAddHashed
  refine wpAny_holding ?_
  rw [show 100000 = 99999 + 1 from rfl, setAddHashedIn_succ]
  refine wpAny_bind (ld ?_)
  dsimp only
  refine wp_if_neg (by simp [byScan, Value.scannable]) ?_
  try refine wpAny_bind (wpAny_pure ?_)
  refine wpAny_bind (sought B hx hu (fun m => wpAny_pure (q false s.heap L es ep t (Heap.SameBut.refl a s.heap) B (fun _ => rfl) fun z => absurd m z)) fun K m kn kb => wpAny_bind (ld ?_))
  dsimp only
  obtain ⟨p1, p2, T, p4, p5, _, _, _, p9⟩ := B.tab.put kn kb
  rw [List.length_map] at p9
  have tf0 : ∀ b, ({ (t.put (way t.mask (hs P w k) K)).1 with plain := b } : SetTable).fill = L.length + 1 := fun b => p9
  generalize t.put (way t.mask (hs P w k) K) = pt at *
  obtain ⟨t1, at_⟩ := pt
  dsimp only at *
  subst p1
  have rows1 : (SetTable.insertAt es (SetTable.below t.place (way t.mask (hs P w k) K)) (hs P w k, Value.ref x)).toList = (L.take (SetTable.below t.place (way t.mask (hs P w k) K)) ++ (x, k) :: L.drop (SetTable.below t.place (way t.mask (hs P w k) K))).map (row P w) := by
    rw [SetTable.toList_insertAt, B.rows, List.map_append, List.map_cons, List.map_take, List.map_drop]
    rfl
  have T1 : TabOk t1 ((L.take (SetTable.below t.place (way t.mask (hs P w k) K)) ++ (x, k) :: L.drop (SetTable.below t.place (way t.mask (hs P w k) K))).map fun p => hs P w p.2) := by
    rw [List.map_append, List.map_cons, List.map_take, List.map_drop]
    exact T
  have pm := put_perm L (SetTable.below t.place (way t.mask (hs P w k) K)) (x, k)
  generalize SetTable.insertAt es (SetTable.below t.place (way t.mask (hs P w k) K)) (hs P w k, Value.ref x) = es1 at rows1 ⊢
  generalize L.take (SetTable.below t.place (way t.mask (hs P w k) K)) ++ (x, k) :: L.drop (SetTable.below t.place (way t.mask (hs P w k) K)) = L1 at rows1 T1 pm
  have l1 : L1.length = L.length + 1 := pm.length_eq
  have nd1 : (L1.map (·.2)).Nodup := (pm.map (·.2)).nodup_iff.mpr (List.nodup_cons.mpr ⟨m, B.nd⟩)
  have rest : ∀ b : Bool, wpAny (model P w) A (do
      storeSet a es1 (if b then t1 else { t1 with plain := false })
      if !false && (if b then t1 else { t1 with plain := false } : SetTable).tooFull then setRelay a (SetTable.grown (es.size + 1))
      return true) Q E s := fun b => by
    have Tb : TabOk (if b then t1 else { t1 with plain := false } : SetTable) (L1.map fun p => hs P w p.2) := by
      cases b
      · exact tab_plain T1 false
      · exact T1
    have mb : (if b then t1 else { t1 with plain := false } : SetTable).mask = t.mask := by cases b <;> exact p4
    have lb : (if b then t1 else { t1 with plain := false } : SetTable).led = t.led := by cases b <;> exact p5
    have fb : (if b then t1 else { t1 with plain := false } : SetTable).fill = L.length + 1 := by cases b <;> exact p9
    generalize (if b then t1 else { t1 with plain := false } : SetTable) = t2 at Tb mb lb fb ⊢
    refine wpAny_bind (wpAny_storeSet_of e1 e3 ?_ (by rw [size_rows rows1, l1, sizeLine_eq]; omega))
    have sb : Heap.SameBut a s.heap (s.heap.update a (Obj.putSet es1 t2)) := Heap.SameBut.update ..
    have ho := store_at (es' := es1) (t' := t2) e1 e3
    generalize s.heap.update a (Obj.putSet es1 t2) = h1 at sb ho ⊢
    have tk1 : ∀ p ∈ L1, Tk P w h1 p.2 p.1 := fun p hp => by
      cases pm.mem_iff.mp hp with
      | head => exact tk_but hx e1 e3 sb
      | tail _ hp => exact tk_but (B.tk p hp) e1 e3 sb
    have rm := B.room
    by_cases full : t2.tooFull = true
    · have much : t2.mask * 3 ≤ (L.length + 1) * 5 := by
        unfold SetTable.tooFull at full
        rw [decide_eq_true_eq, fb] at full
        exact full
      have at2 : (t.mask = 7 ∧ L.length = 4) ∨ (t.mask = 31 ∧ L.length = 18) := by
        rcases B.tab.mok with e | e | e <;> rw [mb, e] at much <;> rw [e] at rm <;> omega
      have go : ∀ M, SetTable.sizeAbove (SetTable.grown (L.length + 1)) = M + 1 → MaskOk M → L1.length * 5 < M * 3 → wpAny (model P w) A (setRelay a (SetTable.grown (L.length + 1))) (fun _ s1 => wpAny (model P w) A (pure true) Q E s1) E { s with heap := h1 } := fun M z1 z2 z3 =>
        relaid_at (s := { s with heap := h1 }) ho ⟨e2.1, e2.2.1, e2.2.2⟩ rfl rows1 (by rw [Tb.sz, List.length_map]) Tb.dm (by rw [mb, l1]; rcases at2 with ⟨u, v⟩ | ⟨u, v⟩ <;> omega) (by rw [lb]; exact B.led) (by omega) tk1 nd1 z1 z2 z3
          fun h2 L2 es2 ep2 t2 sb2 B2 pm2 => wpAny_pure (q true h2 L2 es2 ep2 t2 (sb.trans sb2) B2 (fun z => absurd z m) fun _ => pm2.trans pm)
      rw [size_rows B.rows]
      have both : wpAny (model P w) A (setRelay a (SetTable.grown (L.length + 1))) (fun _ s1 => wpAny (model P w) A (pure true) Q E s1) E { s with heap := h1 } := by
        rcases at2 with ⟨_, v⟩ | ⟨_, v⟩
        · exact go 31 (by rw [v, size_20]) (.inr (.inl rfl)) (by omega)
        · exact go 127 (by rw [v, size_76]) (.inr (.inr rfl)) (by omega)
      simp only [Bool.not_false, full, Bool.and_self, if_true]
      exact wpAny_bind both
    · simp only [Bool.not_false, full, Bool.true_and, Bool.false_eq_true, if_false]
      refine wpAny_bind (wpAny_pure (wpAny_pure (q true h1 L1 es1 _ t2 sb ⟨⟨_, ho, ⟨e2.1, e2.2.1, e2.2.2⟩, rfl⟩, rows1, Tb, by rw [lb]; exact B.led, ?_, by omega, tk1, nd1⟩ (fun z => absurd z m) fun _ => pm)))
      unfold SetTable.tooFull at full
      rw [decide_eq_true_eq, fb] at full
      omega
  by_cases hp : t1.plain = true
  · refine wp_if_pos hp (wpAny_bind (byval_tk hx fun b => ?_))
    exact rest b
  · refine wp_if_neg hp (wpAny_bind (wpAny_pure ?_))
    exact rest true
end

/-! ### the whole of a tuple -/
/-- what a set has of the first i -/
structure Cov (ks : List (Addr × List Str)) (i : Nat) (L : List (Addr × List Str)) : Prop where
  mem : ∀ k, k ∈ L.map (·.2) ↔ k ∈ (ks.take i).map (·.2)
  le : L.length ≤ i
  full : L.length = i ↔ ((ks.take i).map (·.2)).Nodup
theorem Cov.nil (ks : List (Addr × List Str)) : Cov ks 0 [] := ⟨fun _ => Iff.rfl, Nat.le_refl _, by simp⟩
theorem Cov.more {ks L L' : List (Addr × List Str)} {i : Nat} {x : Addr × List Str} (c : Cov ks i L) (e : ks[i]? = some x) (h1 : x.2 ∈ L.map (·.2) → L' = L) (h2 : x.2 ∉ L.map (·.2) → L'.Perm ((x.1, x.2) :: L)) : Cov ks (i + 1) L' := by
  have tk : (ks.take (i + 1)).map (·.2) = (ks.take i).map (·.2) ++ [x.2] := by
    rw [List.take_add_one, e, List.map_append]
    rfl
  have nd : ((ks.take (i + 1)).map (·.2)).Nodup ↔ ((ks.take i).map (·.2)).Nodup ∧ x.2 ∉ L.map (·.2) := by
    rw [tk, List.nodup_append]
    constructor
    · rintro ⟨a, _, b⟩
      exact ⟨a, fun h => b _ ((c.mem _).mp h) _ (List.mem_singleton.mpr rfl) rfl⟩
    · rintro ⟨a, b⟩
      refine ⟨a, by simp, fun y hy z hz q => b ((c.mem _).mpr ?_)⟩
      rw [← List.mem_singleton.mp hz, ← q]
      exact hy
  by_cases h : x.2 ∈ L.map (·.2)
  · cases h1 h
    refine ⟨fun k => ?_, Nat.le_succ_of_le c.le, ?_⟩
    · rw [tk, List.mem_append, List.mem_singleton, ← c.mem]
      exact ⟨.inl, fun z => z.elim id fun z => z ▸ h⟩
    · rw [nd]
      have := c.le
      exact ⟨fun z => absurd z (by omega), fun z => absurd h z.2⟩
  · have pm := h2 h
    refine ⟨fun k => ?_, ?_, ?_⟩
    · rw [(pm.map (·.2)).mem_iff, List.map_cons, List.mem_cons, tk, List.mem_append, List.mem_singleton, ← c.mem]
      exact Or.comm
    · rw [pm.length_eq]
      exact Nat.succ_le_succ c.le
    · rw [nd, pm.length_eq, List.length_cons, Nat.succ_inj, c.full]
      exact ⟨fun z => ⟨z, h⟩, fun z => z.1⟩
section
variable {prog : Program} {w : World} {A : Around} {R : Result → Shared → Prop} {it : Addr} {fp wr : List Addr} {G : Array GenState → Array GenState → Prop} {n : Nat} {Pv : Nat → Value → Prop} {St : Nat → Shared → Prop}
theorem loopTk (W : WalksS prog w A.in1 it fp wr G n Pv St) (b : Addr) (hb : b ∉ fp) (ks : List (Addr × List Str)) (hn : ks.length = n) (few : n < 64) (hv : ∀ (i : Nat) v, Pv i v → ∃ p, ks[i]? = some p ∧ v = .ref p.1) (hu : A.in1.units < cLine)
    (old : Heap) (tk : ∀ p ∈ ks, Tk prog w old p.2 p.1) (nb : old.get? b = none) (nw : ∀ q ∈ wr, old.get? q = none) :
    ∀ (k i : Nat) (s : Shared), n - i = k → i ≤ n → St i s → (∀ q o, old.get? q = some o → s.heap.get? q = some o) → (∃ L es ep t, Cov ks i L ∧ (∀ p ∈ L, p ∈ ks) ∧ Bag prog w s.heap b L es ep t) →
      (∀ s' L es ep t, Moved (b :: wr) G s s' → Cov ks n L → Bag prog w s'.heap b L es ep t → R (.ok (.ret .none)) s') →
      codeAny (model prog w) A (.builtin "set.update.loop" ⟨[.ref b, .ref it], []⟩) R s := by
  have bw : b ∉ wr := fun h => hb (W.sub _ h)
  have ws : ∀ q ∈ wr, q ∈ b :: wr := fun q hq => List.mem_cons_of_mem _ hq
  have kept : ∀ {u v : Heap} {p : Addr × List Str}, Tk prog w u p.2 p.1 → (∀ q o, u.get? q = some o → v.get? q = some o) → Tk prog w v p.2 p.1 := fun ⟨o, its, c, e, r⟩ f => ⟨o, its, c, f _ _ e, r⟩
  have same : ∀ {s1 s2 : Shared} {L es ep t}, Bag prog w s1.heap b L es ep t → Moved wr G s1 s2 → (∀ p ∈ L, p ∈ ks) → (∀ q o, old.get? q = some o → s2.heap.get? q = some o) → Bag prog w s2.heap b L es ep t := fun {s1 s2 L es ep t} B mv sub up => by
    obtain ⟨o, e, r⟩ := B.ob
    exact ⟨⟨o, mv.heap b o bw e, r⟩, B.rows, B.tab, B.led, B.room, B.few, fun p hp => kept (tk p (sub p hp)) up, B.nd⟩
  have up : ∀ {s1 s2 : Shared}, Moved wr G s1 s2 → (∀ q o, old.get? q = some o → s1.heap.get? q = some o) → ∀ q o, old.get? q = some o → s2.heap.get? q = some o := fun mv f q o e => mv.heap q o (fun z => by rw [nw q z] at e; cases e) (f q o e)
  intro k
  induction k with
  | zero =>
    rintro i s hk hi st f ⟨L, es, ep, t, c, sub, B⟩ done
    obtain rfl : i = n := by omega
    refine codeAny_builtin PyProof.Rows.F.entry_set_update_loop ?_
    rw [Around.under_plainId PyProof.Rows.F.plain_set_update_loop _]
    refine wpAny_bind (m := pyNext (.ref it)) (W.done s _ _ st fun s1 mv => ?_)
    exact wpAny_pure (done s1 L es ep t (mv.mono ws) c (same B mv sub (up mv f)))
  | succ k ih =>
    rintro i s hk hi st f ⟨L, es, ep, t, c, sub, B⟩ done
    have lt : i < n := by omega
    refine codeAny_builtin PyProof.Rows.F.entry_set_update_loop ?_
    rw [Around.under_plainId PyProof.Rows.F.plain_set_update_loop _]
    refine wpAny_bind (m := pyNext (.ref it)) (W.item i s _ _ lt st fun v s1 pv st1 mv => ?_)
    obtain ⟨p, ei, rfl⟩ := hv i v pv
    have B1 := same B mv sub (up mv f)
    have tp := kept (tk p (List.mem_of_getElem? ei)) (up mv f)
    refine wpAny_bind (m := holding [Value.ref p.1] (setAdd b (.ref p.1))) (wpAny_holding ?_)
    unfold setAdd
    refine wpAny_holding (wpAny_bind (wpAny_pyHash_tuple hu tp ?_))
    refine added (s := { s1 with toks := s1.toks + (p.2.length + 1) }) B1 tp hu (by have := c.le; omega) fun z h' L' es' ep' t' sb B2 c1 c2 => ?_
    have subL : ∀ q ∈ L', q ∈ ks := fun q hq => by
      by_cases h : p.2 ∈ L.map (·.2)
      · exact sub q (c1 h ▸ hq)
      · cases (c2 h).mem_iff.mp hq with
        | head => exact List.mem_of_getElem? ei
        | tail _ hq => exact sub q hq
    refine wpAny_pure ⟨plainId_quiet PyProof.Rows.F.plain_set_update_loop _, ih (i + 1) _ (by omega) lt (W.frame _ s1 _ _ st1 (Nat.le_add_right _ _) fun q hq o e => ?_) (fun q o e => ?_) ⟨L', es', ep', t', c.more ei c1 c2, subL, B2⟩ fun s2 L2 es2 ep2 t2 mv2 c3 B3 => ?_⟩
    · exact (sb.2 q fun z => hb (z ▸ hq)).trans e
    · exact (sb.2 q fun z => by rw [z, nb] at e; cases e).trans (up mv f q o e)
    · refine done s2 L2 es2 ep2 t2 (Moved.trans W.gtrans ((mv.mono ws).then_heap (Nat.le_add_right _ _) fun q o hq e => ?_) mv2) c3 B3
      exact (sb.2 q fun z => hq (z ▸ List.mem_cons_self)).trans e
end
section
variable {prog : Program} {w : World} {A : Around} {E : Value → Shared → Prop} {s : Shared}
theorem new_bag {h : Heap} {a : Addr} {led : Bool} (ho : h.get? a = some (setObj led)) (hl : w.params.followText "set-order" = true ∨ led = true) : Bag prog w h a [] #[] 0 (.fresh 0 0 led) where
  ob := ⟨_, ho, ⟨rfl, rfl, rfl⟩, rfl⟩
  rows := rfl
  tab := ⟨List.Pairwise.nil, rfl, rfl, .inl rfl, (fun _ z => nomatch z), (fun i u j e => by simp at e)⟩
  led := hl
  room := by
    show 0 * 5 < 7 * 3
    decide
  few := (by decide : 0 < 64)
  tk := fun _ z => nomatch z
  nd := List.nodup_nil
def ledOf (w : World) : Bool := !w.params.followText "set-order"
theorem ledOf_or (w : World) : w.params.followText "set-order" = true ∨ ledOf w = true := by
  unfold ledOf
  cases w.params.followText "set-order"
  · exact .inr rfl
  · exact .inl rfl
theorem init_tk {l : Addr} {items : Array Value} {ks : List (Addr × List Str)} (hh : A.handled = none) (hl : s.heap.IsTuple l items) (hi : items.toList = ks.map fun p => Value.ref p.1) (tk : ∀ p ∈ ks, Tk prog w s.heap p.2 p.1) (few : ks.length < 64) (hu : A.units + 4 < cLine) :
    codeAny (model prog w) A (.call (.builtin "set.__init__") ⟨[.ref s.heap.objs.size, .ref l], []⟩)
      (wants (fun r s2 => r = .none ∧ ∃ h' n L es ep t, s2 = { s with heap := h', toks := n } ∧ Cov ks ks.length L ∧ Bag prog w h' s.heap.objs.size L es ep t ∧ (∀ q o, s.heap.get? q = some o → h'.get? q = some o)) E)
      { s with heap := s.heap.push (setObj (ledOf w)) } := by
  have hT : Shared.TypeIs { s with heap := s.heap.push (setObj (ledOf w)) } (.ref s.heap.objs.size) "set" := ⟨_, Heap.get?_push_size _ rfl, rfl⟩
  refine codeAny_call_builtin PySem.F.called_set.init.plain PySem.F.entry_set_init (check_set_init_1 hT ?_)
  obtain ⟨⟨kc, kd, kx, kz⟩, hol, hcl, nl, hdl⟩ := hl
  simp only at hcl hdl
  subst hcl hdl
  have hol' : (s.heap.push (setObj (ledOf w))).get? l = some _ := Heap.get?_push_of_some _ hol
  have hl1 : (s.heap.push (setObj (ledOf w))).IsTuple l items := ⟨_, hol', rfl, nl, rfl⟩
  have hsls := PySem.F.sub_tuple_set
  have hslf := PySem.F.sub_tuple_frozenset
  have hne : (Value.type "tuple" == Value.type "dict") = false := by decide
  unfold Builtin.«set.__init__» noKeywords Builtin.Frozenset.updateFrom
  generalize ePI : pyIter = PI
  wp_walk
  subst ePI
  refine wpAny_pyIter_tuple hl1 (wpAny_bind (wpAny_runValue ?_))
  have below : l < s.heap.objs.size := Heap.lt_size hol
  have nh : A.in1.in1.handled = none := by simp [hh]
  have z1 : (s.heap.push (setObj (ledOf w))).objs.size = s.heap.objs.size + 1 := Heap.size_push ..
  have apart : l ≠ (s.heap.push (setObj (ledOf w))).objs.size := by
    rw [z1]
    exact Nat.ne_of_lt (Nat.lt_succ_of_lt below)
  have out : s.heap.objs.size ∉ [(s.heap.push (setObj (ledOf w))).objs.size, l] := by
    rw [List.mem_cons, List.mem_singleton, z1]
    exact fun q => q.elim (Nat.ne_of_lt (Nat.lt_succ_self _)) (Nat.ne_of_gt below)
  have zx : ks.length = items.size := by rw [← Array.length_toList, hi, List.length_map]
  have void : ∀ q, s.heap.objs.size ≤ q → s.heap.get? q = none := fun q hq => by
    cases e : s.heap.get? q with
    | none => rfl
    | some o => exact absurd (Heap.lt_size e) (Nat.not_lt_of_le hq)
  refine loopTk ((Walks.tuple nh _ l apart items).toS) s.heap.objs.size out ks zx (zx ▸ few) (fun i v e => ?val) (by simp; omega) s.heap tk (void _ (Nat.le_refl _)) (fun q hq => void q (by rw [List.mem_singleton.mp hq, z1]; omega)) (items.size - 0) 0 _ (by omega) (Nat.zero_le _) ?at_ (fun q o e => Heap.get?_push_of_some _ (Heap.get?_push_of_some _ e)) ?first ?last
  case val =>
    have e : items.toList[i]? = some v := Array.getElem?_toList ▸ e
    rw [hi, List.getElem?_map] at e
    obtain ⟨p, e1, e2⟩ := Option.map_eq_some_iff.mp e
    exact ⟨p, e1, e2.symm⟩
  case at_ => exact ⟨⟨_, Heap.get?_push_size _ rfl, rfl, rfl⟩, hl1.push _⟩
  case first => exact ⟨[], #[], 0, _, Cov.nil ks, fun _ z => (nomatch z), new_bag (Heap.get?_push_of_some _ (Heap.get?_push_size _ rfl)) (ledOf_or w)⟩
  case last =>
    rintro ⟨h', g', d', tk', os'⟩ L es ep t mv c B
    obtain rfl : g' = s.gens := mv.gens
    obtain rfl : d' = s.drawn := mv.drawn
    obtain rfl : os' = s.os := mv.os
    refine wpAny_pure (wpAny_pure ⟨rfl, h', tk', L, es, ep, t, rfl, zx ▸ c, B, fun q o e => ?_⟩)
    have lq := Heap.lt_size e
    refine mv.heap q o (by rw [List.mem_cons, List.mem_singleton, z1]; exact fun z => z.elim (Nat.ne_of_lt lq) (Nat.ne_of_lt (Nat.lt_succ_of_lt lq))) (Heap.get?_push_of_some _ (Heap.get?_push_of_some _ e))
set_option maxHeartbeats 8000000 in
theorem call_set_tk {l : Addr} {items : Array Value} {ks : List (Addr × List Str)} {Q : Value → Shared → Prop} (hh : A.handled = none) (hl : s.heap.IsTuple l items) (hi : items.toList = ks.map fun p => Value.ref p.1) (tk : ∀ p ∈ ks, Tk prog w s.heap p.2 p.1) (few : ks.length < 64) (hu : A.units + 8 < cLine)
    (h : ∀ (h' : Heap) (n : Nat) L es ep t, Cov ks ks.length L → Bag prog w h' s.heap.objs.size L es ep t → (∀ q o, s.heap.get? q = some o → h'.get? q = some o) → Q (.ref s.heap.objs.size) { s with heap := h', toks := n }) :
    wpAny (model prog w) A (call (.type "set") [.ref l]) Q E s := by
  obtain ⟨_, _, hmro⟩ := PySem.F.called_set.mro
  have hmade := PySem.F.called_set.made
  have hsub := PySem.F.called_set.sub
  have h1 := PySem.F.called_set.notType
  have h2 := PySem.F.called_set.canCreate
  have hct := PySem.F.typeCall_set_1 (.ref l)
  refine wpAny_call (codeAny_of_tree (wpAny_pure (a := _) ⟨Code.quiet_builtin _ (by decide +kernel), codeAny_builtin PySem.F.entry_type_call ?_⟩))
  rw [Around.under_plain (weight_type_call_type "set" [.ref l] []) rfl]
  repeat (any_goals (first | assumption | wp_step))
  refine codeAny_mono (code_set_led1 (.ref l) (E := E) (Q₁ := fun v s1 => v = .ref s.heap.objs.size ∧ s1 = { s with heap := s.heap.push (setObj (ledOf w)) }) ⟨rfl, rfl⟩) fun r s1 hr => ?_
  match r, hr with
  | .ok (.ret v), hr =>
    obtain ⟨rfl, rfl⟩ := hr
    have hS : (s.heap.push (setObj (ledOf w))).get? s.heap.objs.size = some (setObj (ledOf w)) := Heap.get?_push_size _ rfl
    have hT : Shared.TypeIs { s with heap := s.heap.push (setObj (ledOf w)) } (.ref s.heap.objs.size) "set" := ⟨_, hS, rfl⟩
    have hli := PySem.F.called_set.init.lookup
    have hbi := PySem.F.called_set.init.bind (.ref s.heap.objs.size)
    repeat (any_goals (first | assumption | wp_step))
    refine codeAny_mono (init_tk (E := E) (by simp [hh]) hl hi tk few (by simp; omega)) fun r s2 hr => ?_
    match r, hr with
    | .ok (.ret v), hr =>
      obtain ⟨rfl, h', n, L, es, ep, t, rfl, c, B, keep⟩ := hr
      repeat (any_goals (first | assumption | wp_step))
      exact h h' n L es ep t c B keep
    | .error e, hr => exact hr
    | .ok .next, hr => exact hr.elim
    | .ok .brk, hr => exact hr.elim
    | .ok .cont, hr => exact hr.elim
  | .error e, hr => exact hr
  | .ok .next, hr => exact hr.elim
  | .ok .brk, hr => exact hr.elim
  | .ok .cont, hr => exact hr.elim
end
theorem items_tk {P : Program} {w : World} : ∀ {k : List Str} {us : List Value}, Vals (k.map V.str) us → ItemsAre (PySem.strKind P w) k us
  | [], _, .nil => .nil
  | _ :: _, _, .cons r t => by
    obtain ⟨z, rfl⟩ := r
    exact .cons (strKind_is _ _ _ _) (items_tk t)
theorem refs_tk : ∀ {ks : List (Addr × List Str)} {us : List Value}, Vals (ks.map fun p => V.ref p.1) us → us = ks.map fun p => Value.ref p.1
  | [], _, .nil => rfl
  | _ :: _, _, .cons r t => by
    cases r
    exact congrArg _ (refs_tk t)
/-- len(set(t)), t a tuple of tuples of texts -/
def tLenSetTk (K : PySem.W.Frag) (ta : TE) : TE := fun σ H Q => ta σ H fun x H1 => ∃ (l : Addr) (ks : List (Addr × List Str)), x = .ref l ∧ SqT K H1 l (ks.map fun p => V.ref p.1) ∧ (∀ p ∈ ks, SqT K H1 p.1 (p.2.map V.str)) ∧ ks.length < 64 ∧ ∀ c : Nat, c ≤ ks.length → (c = ks.length ↔ (ks.map (·.2)).Nodup) → Q (.int c) H1
theorem pe_lenSetTk {X : Cx} {a : Expr} {ta : TE} {p p2 q pos : Pos} (hg : Gl X "len") (hm : X.mg "len" = none) (hg2 : Gl X "set") (hm2 : X.mg "set" = none) (hu : X.A.units + 64 < cLine) (ha : PE X a ta) (hc : X.calm = true := by rfl)
    (na : starEach [a] X.env = (false, eval a X.env) :: starEach [] X.env := by rfl) : PE X (.Call (.Name "len" p) [.Call (.Name "set" p2) [a] [] q] [] pos) (tLenSetTk X.K ta) := by
  refine ⟨fun pins s σ H Q I h => Call_ (ld_blt I hg hm boot_len (PyProof.Rows.callWith_builtin1 (PyProof.Rows.args_cons (Call_ (ld_blt I hg2 hm2 boot_set (PyProof.Rows.callWith_type1 (PyProof.Rows.args_cons (thn (ha.run pins s σ H _ I h) fun v s1 ⟨x, H1, I1, r1, q1⟩ => PyProof.Rows.args_nil ?_) na) na rfl))) rfl) rfl rfl))⟩
  obtain ⟨l, ks, rfl, ht, hk, few, q1⟩ := q1
  obtain rfl : v = Value.ref l := r1
  obtain ⟨its, rv, pl, _⟩ := I1.tuple ht
  refine call_set_tk (ks := ks) (I1.ok.hd hc) pl (by simpa using refs_tk rv) (fun p hp => ?_) few (by omega) fun h' n L es ep t c B keep => PyProof.Rows.args_nil ?_
  · obtain ⟨us, r, ⟨o, e1, e2, m, e3⟩, _⟩ := I1.tuple (hk p hp)
    exact ⟨o, us.toArray, m, e1, e2, e3, by simpa using items_tk r⟩
  · have I2 : Inv X pins σ H1 { s1 with heap := h', toks := n } := I1.kept keep
    obtain ⟨o, e1, e2, e3⟩ := B.ob
    have z := c.full
    rw [List.take_length] at z
    exact call_len_set e1 e2 e3 (fits_of B.rows (by rw [B.tab.sz, List.length_map]) B.tab.dm (by have := B.room; omega)) (by rw [size_rows B.rows]; have := B.few; omega) ⟨.int L.length, H1, I2.tok _, ⟨_, by rw [size_rows B.rows]⟩, q1 L.length c.le z⟩
end El

set_option Elab.async false
set_option linter.all false
set_option maxRecDepth 100000
set_option maxHeartbeats 4000000
/-! Own words: `in`, `not in` and `[..]` of own classes. -/
namespace El
open PySem PySem.Spec PyProof.Rows L2
/-- an own class's `__contains__` -/
structure InC (K : PySem.W.Frag) (C f : Addr) : Prop where
  at_ : PySem.W.findIn K (.ref C) "__contains__" = some (some (.ref f))
  fn : PySem.W.isFn K (.ref f) = true
/-- an own class's `__getitem__` -/
structure ItC (K : PySem.W.Frag) (C f : Addr) : Prop where
  at_ : PySem.W.findIn K (.ref C) "__getitem__" = some (some (.ref f))
  fn : PySem.W.isFn K (.ref f) = true
  ns : PySem.W.noSeq K C = true
section
variable {X : Cx} {CX : CXT} {k : Nat} {C f : Addr} {fd : FuncData} {ps : List Str} {sp : Sp} {E : XK}
/-- x in a, a of the class at C; n: not in -/
def rInO (n : Bool) (C : Addr) (sp : Sp) (E : XK) : R2 := fun x y H Q => ∃ a dx fs, y = .ref a ∧ H a = some (.ins C dx fs) ∧ sp [.ref a, x] H (fun v H' => ∃ b : Bool, v = .bl b ∧ Q (.bl (n ^^ b)) H') E
theorem op_inO (c : InC X.K C f) (F : FnOk X.prog X.w X.K X.mg X.base CX k f fd ps sp) (hr : Room k X.A) (hb : Binds X.K fd ps []) (hx : Passes CX X E) : OpR X (compareOp .In) (rInO false C sp E) := by
  intro pins s σ H x y v u Q I rx ry h
  obtain ⟨a, dx, fs, rfl, ea, q⟩ := h
  obtain rfl : u = Value.ref a := ry
  obtain ⟨m, fr⟩ := I.fr
  obtain ⟨mA, O, _⟩ := ins_get I.hok ea
  obtain ⟨od, J, _⟩ := O.look
  refine PySem.W.in_K fr I.ok.mod.kin J c.at_ c.fn ?_
  refine wpAny_mono (run_fn (us := [.ref a, v]) (vs := [.ref a, x]) (ds := []) (dvs := []) F hr hb .nil hx I (.cons rfl (.cons rx .nil)) q) (fun u' s' h' => ?_) fun _ _ z => z
  obtain ⟨w, H', I', rw', b, rfl, q'⟩ := h'
  cases (show u' = Value.bool b from rw')
  refine wpAny_pure ⟨.bl b, H', I', rfl, ?_⟩
  cases b <;> exact q'
theorem op_notInO (c : InC X.K C f) (F : FnOk X.prog X.w X.K X.mg X.base CX k f fd ps sp) (hr : Room k X.A) (hb : Binds X.K fd ps []) (hx : Passes CX X E) : OpR X (compareOp .NotIn) (rInO true C sp E) := by
  intro pins s σ H x y v u Q I rx ry h
  obtain ⟨a, dx, fs, rfl, ea, q⟩ := h
  obtain rfl : u = Value.ref a := ry
  obtain ⟨m, fr⟩ := I.fr
  obtain ⟨mA, O, _⟩ := ins_get I.hok ea
  obtain ⟨od, J, _⟩ := O.look
  refine PySem.W.notIn_K fr I.ok.mod.kin J c.at_ c.fn ?_
  refine wpAny_mono (run_fn (us := [.ref a, v]) (vs := [.ref a, x]) (ds := []) (dvs := []) F hr hb .nil hx I (.cons rfl (.cons rx .nil)) q) (fun u' s' h' => ?_) fun _ _ z => z
  obtain ⟨w, H', I', rw', b, rfl, q'⟩ := h'
  cases (show u' = Value.bool b from rw')
  refine wpAny_pure ⟨.bl (!b), H', I', rfl, ?_⟩
  cases b <;> exact q'
/-- a[y], a of the class at C -/
def rItO (C : Addr) (sp : Sp) (E : XK) : R2 := fun x y H Q => ∃ a dx fs, x = .ref a ∧ H a = some (.ins C dx fs) ∧ sp [.ref a, y] H Q E
theorem op_itO (c : ItC X.K C f) (F : FnOk X.prog X.w X.K X.mg X.base CX k f fd ps sp) (hr : Room k X.A) (hb : Binds X.K fd ps []) (hx : Passes CX X E) : OpR X getItem (rItO C sp E) := by
  intro pins s σ H x y v u Q I rx ry h
  obtain ⟨a, dx, fs, rfl, ea, q⟩ := h
  obtain rfl : v = Value.ref a := rx
  obtain ⟨m, fr⟩ := I.fr
  obtain ⟨mA, O, _⟩ := ins_get I.hok ea
  obtain ⟨od, J, _⟩ := O.look
  refine PySem.W.getItem_K fr I.ok.mod.kin J c.ns c.at_ c.fn ?_
  exact run_fn (us := [.ref a, u]) (vs := [.ref a, y]) (ds := []) (dvs := []) F hr hb .nil hx I (.cons rfl (.cons ry .nil)) q
end
end El

set_option Elab.async false
set_option linter.all false
set_option maxRecDepth 100000
set_option maxHeartbeats 4000000
/-! Own words: `in`, `not in` for pairs of texts in tuples and lists of such, `==` of such pairs; keyword-only parameters with defaults. -/
namespace El
open PySem PySem.Spec PyProof.Rows L2
theorem dec_iff {p : Prop} {i : Decidable p} : @decide p i = true ↔ p := decide_eq_true_iff
section
variable {X : Cx}
/-- the tuple (a, b) of texts -/
def PairAt (K : PySem.W.Frag) (H : Hp) (v : V) (p : Str × Str) : Prop := ∃ r, v = .ref r ∧ SqT K H r [.str p.1, .str p.2]
/-- a row of such -/
inductive PairsIn (K : PySem.W.Frag) (H : Hp) : List V → List (Str × Str) → Prop
  | nil : PairsIn K H [] []
  | cons {v : V} {p : Str × Str} {vs : List V} {ps : List (Str × Str)} : PairAt K H v p → PairsIn K H vs ps → PairsIn K H (v :: vs) (p :: ps)
theorem PairAt.dp {K : PySem.W.Frag} {H : Hp} {v : V} {p : Str × Str} (h : PairAt K H v p) : Dp K H v (PySem.W.Datum.toD p) := by
  obtain ⟨r, rfl, h⟩ := h
  exact .tup h (.cons (.str _) (.cons (.str _) .nil))
theorem PairsIn.dp {K : PySem.W.Frag} {H : Hp} {vs : List V} {ps : List (Str × Str)} (h : PairsIn K H vs ps) : DpAll K H vs (ps.map PySem.W.Datum.toD) := by
  induction h with
  | nil => exact .nil
  | cons a _ ih => exact .cons a.dp ih
def rInP (K : PySem.W.Frag) (neg : Bool) : R2 := fun x y H Q => ∃ (p : Str × Str) (l : Addr) (vs : List V) (ps : List (Str × Str)), PairAt K H x p ∧ y = .ref l ∧ (SqT K H l vs ∨ SqL K H l vs) ∧ PairsIn K H vs ps ∧ Q (.bl (if neg then decide (p ∉ ps) else decide (p ∈ ps))) H
theorem op_inP (K : PySem.W.Frag) (neg : Bool) (hu : X.A.units + 64 < cLine) (hK : X.K = K := by rfl) : OpR X (compareOp (if neg then .NotIn else .In)) (rInP K neg) := by
  subst hK
  intro pins s σ H x y v u Q I rx ry h
  obtain ⟨p, l, vs, ps, hp, rfl, hl, hv, q⟩ := h
  obtain ⟨bs, rd⟩ := Dp.reads I _ x v hp.dp rx
  have dep : PySem.W.Datum.depth (Str × Str) ≤ 2 := by decide
  have any_ : ((ps.map PySem.W.Datum.toD).any fun d => PyData.eqv d (PySem.W.Datum.toD p)) = true ↔ p ∈ ps := by
    have z := PySem.W.any_datum ps p
    exact (Bool.eq_iff_iff.mp z).trans dec_iff
  have room : X.A.units + 1 + min (PyData.depthAll (ps.map PySem.W.Datum.toD)) (PySem.W.Datum.toD p).depth < cLine := by
    have := PySem.W.Datum.depth_le p
    have := Nat.min_le_right (PyData.depthAll (ps.map PySem.W.Datum.toD)) (PySem.W.Datum.toD p).depth
    omega
  have yes : ∀ b : Bool, (b = true ↔ p ∈ ps) → b = decide (p ∈ ps) := fun b hb => by rw [Bool.eq_iff_iff, hb, decide_eq_true_iff]
  have no : ∀ b : Bool, (b = true ↔ p ∈ ps) → (!b) = decide (p ∉ ps) := fun b hb => by rw [yes b hb, decide_not]
  rcases hl with hl | hl
  · obtain ⟨as, rc⟩ := Dp.reads I _ (.ref l) u (.tup hl hv.dp) ry
    cases neg
    · exact PySem.SeqAt.in_tuple_data rc rd (PySem.W.plainAll_map ps) (PySem.W.Datum.plain p) room (by rw [yes _ any_]; exact ⟨.bl _, H, I, rfl, q⟩)
    · exact PySem.SeqAt.notIn_tuple_data rc rd (PySem.W.plainAll_map ps) (PySem.W.Datum.plain p) room (by rw [no _ any_]; exact ⟨.bl _, H, I, rfl, q⟩)
  · obtain ⟨as, rc⟩ := Dp.reads I _ (.ref l) u (.lst hl hv.dp) ry
    cases neg
    · exact PySem.SeqAt.in_list_data rc rd (PySem.W.plainAll_map ps) (PySem.W.Datum.plain p) room (by rw [yes _ any_]; exact ⟨.bl _, H, I, rfl, q⟩)
    · exact PySem.SeqAt.notIn_list_data rc rd (PySem.W.plainAll_map ps) (PySem.W.Datum.plain p) room (by rw [no _ any_]; exact ⟨.bl _, H, I, rfl, q⟩)
theorem inP (K : PySem.W.Frag) (hu : X.A.units + 64 < cLine) (hK : X.K = K := by rfl) : OpR X (compareOp .In) (rInP K false) := op_inP K false hu hK
theorem notInP (K : PySem.W.Frag) (hu : X.A.units + 64 < cLine) (hK : X.K = K := by rfl) : OpR X (compareOp .NotIn) (rInP K true) := op_inP K true hu hK
def rEqP (K : PySem.W.Frag) : R2 := fun x y H Q => ∃ p q : Str × Str, PairAt K H x p ∧ PairAt K H y q ∧ Q (.bl (decide (p = q))) H
theorem eqP (K : PySem.W.Frag) (hu : X.A.units + 64 < cLine) (hK : X.K = K := by rfl) : OpR X (compareOp .Eq) (rEqP K) := by
  subst hK
  intro pins s σ H x y v u Q I rx ry h
  obtain ⟨p, q, hp, hq, k⟩ := h
  obtain ⟨as, ra⟩ := Dp.reads I _ x v hp.dp rx
  obtain ⟨bs, rb⟩ := Dp.reads I _ y u hq.dp ry
  have dep : PySem.W.Datum.depth (Str × Str) ≤ 2 := by decide
  have := PySem.W.Datum.depth_le p
  have := Nat.min_le_left (PySem.W.Datum.toD p).depth (PySem.W.Datum.toD q).depth
  exact PySem.SeqAt.eq_plain ra rb (PySem.W.Datum.plain p) (PySem.W.Datum.plain q) (by omega) (by rw [PySem.W.Datum.eqv]; exact ⟨.bl _, H, I, rfl, k⟩)
/-- len(set(t)), t a tuple of pairs of texts -/
def tLenSetP (K : PySem.W.Frag) (ta : TE) : TE := fun σ H Q => ta σ H fun x H1 => ∃ (l : Addr) (vs : List V) (ps : List (Str × Str)), x = .ref l ∧ SqT K H1 l vs ∧ PairsIn K H1 vs ps ∧ ps.length < 64 ∧ ∀ c : Nat, c ≤ ps.length → (c = ps.length ↔ ps.Nodup) → Q (.int c) H1
theorem pairs_ks {K : PySem.W.Frag} {H : Hp} {vs : List V} {ps : List (Str × Str)} (h : PairsIn K H vs ps) : ∃ ks : List (Addr × List Str), vs = ks.map (fun p => V.ref p.1) ∧ (∀ p ∈ ks, SqT K H p.1 (p.2.map V.str)) ∧ ks.map (·.2) = ps.map fun p => [p.1, p.2] := by
  induction h with
  | nil => exact ⟨[], rfl, fun _ z => (nomatch z), rfl⟩
  | @cons v p vs ps a _ ih =>
    obtain ⟨r, rfl, h⟩ := a
    obtain ⟨ks, e1, e2, e3⟩ := ih
    refine ⟨(r, [p.1, p.2]) :: ks, by rw [e1]; rfl, fun q hq => ?_, by rw [List.map_cons, List.map_cons, e3]⟩
    cases hq with
    | head => exact h
    | tail _ hq => exact e2 q hq
theorem nodup_map_inj {α β : Type} {f : α → β} (hf : ∀ a b, f a = f b → a = b) {l : List α} : (l.map f).Nodup ↔ l.Nodup :=
  ⟨fun h => List.Pairwise.of_map f (fun _ _ n e => n (congrArg f e)) h, fun h => List.pairwise_map.mpr (List.Pairwise.imp (fun n e => n (hf _ _ e)) h)⟩
theorem pe_lenSetP {a : Expr} {ta : TE} {p p2 q pos : Pos} (K : PySem.W.Frag) (hg : Gl X "len") (hm : X.mg "len" = none) (hg2 : Gl X "set") (hm2 : X.mg "set" = none) (hu : X.A.units + 64 < cLine) (ha : PE X a ta) (hc : X.calm = true := by rfl)
    (na : starEach [a] X.env = (false, eval a X.env) :: starEach [] X.env := by rfl) (hK : X.K = K := by rfl) : PE X (.Call (.Name "len" p) [.Call (.Name "set" p2) [a] [] q] [] pos) (tLenSetP K ta) := by
  subst hK
  refine ⟨fun pins s σ H Q I h => Call_ (ld_blt I hg hm boot_len (PyProof.Rows.callWith_builtin1 (PyProof.Rows.args_cons (Call_ (ld_blt I hg2 hm2 boot_set (PyProof.Rows.callWith_type1 (PyProof.Rows.args_cons (thn (ha.run pins s σ H _ I h) fun v s1 ⟨x, H1, I1, r1, q1⟩ => PyProof.Rows.args_nil ?_) na) na rfl))) rfl) rfl rfl))⟩
  obtain ⟨l, vs, ps, rfl, ht, hv, few, q1⟩ := q1
  obtain ⟨ks, rfl, hk, e3⟩ := pairs_ks hv
  have el : ks.length = ps.length := by
    have := congrArg List.length e3
    rwa [List.length_map, List.length_map] at this
  obtain rfl : v = Value.ref l := r1
  obtain ⟨its, rv, pl, _⟩ := I1.tuple ht
  refine call_set_tk (ks := ks) (I1.ok.hd hc) pl (by simpa using refs_tk rv) (fun p hp => ?_) (by omega) (by omega) fun h' n L es ep t c B keep => PyProof.Rows.args_nil ?_
  · obtain ⟨us, r, ⟨o, e1, e2, m, e3⟩, _⟩ := I1.tuple (hk p hp)
    exact ⟨o, us.toArray, m, e1, e2, e3, by simpa using items_tk r⟩
  · have I2 : Inv X pins σ H1 { s1 with heap := h', toks := n } := I1.kept keep
    obtain ⟨o, e1, e2, e4⟩ := B.ob
    have z := c.full
    rw [List.take_length] at z
    have c1 := c.le
    refine call_len_set e1 e2 e4 (fits_of B.rows (by rw [B.tab.sz, List.length_map]) B.tab.dm (by have := B.room; omega)) (by rw [size_rows B.rows]; have := B.few; omega) ⟨.int L.length, H1, I2.tok _, ⟨_, by rw [size_rows B.rows]⟩, q1 L.length (by omega) ?_⟩
    rw [← el, z, e3]
    exact nodup_map_inj fun a b e => by
      injection e with e1 e2
      injection e2 with e2 _
      exact Prod.ext e1 e2
end

/-! ### two keyword-only parameters with defaults -/
structure Kw2 (K : PySem.W.Frag) (fd : FuncData) (ps : List Str) (n : Nat) (k1 k2 : Str) (d1 d2 : V) : Prop where
  no : ∃ g, KBn K fd ps n [] g (fun vs _ => vs ++ [d1, d2])
  one : ∃ g, KBn K fd ps n [k1] g (fun vs zs => vs ++ (zs ++ [d2]))
  two : ∃ g, KBn K fd ps n [k2] g (fun vs zs => vs ++ (d1 :: zs))
  all : ∃ g, KBn K fd ps n [k1, k2] g (fun vs zs => vs ++ zs)
theorem Vals.app {vs ws : List V} {us xs : List Value} (a : Vals vs us) (b : Vals ws xs) : Vals (vs ++ ws) (us ++ xs) := by
  induction a with
  | nil => exact b
  | cons r _ ih => exact .cons r ih
theorem kw2_mk {K : PySem.W.Frag} {x qual : Str} {params : Arguments} {body : List Stmt} {scope : Scope} {f : Addr} {fd : FuncData} {ps : List Str} {k1 k2 : Str} {d1 d2 : V} (n : Nat) (F : FunD K x qual params body scope [] [(k1, d1), (k2, d2)] f fd)
    (h0 : ∀ (D : Addr) (doc pm : Value) (an : Option Addr) (cdv ct : Value) (us : List Value) (m1 m2 : Value), us.length = n → KwChain D [(k1, m1), (k2, m2)] (bindArgs (PySem.W.fnOf x qual params body scope .none (.ref D) doc pm an cdv ct) ⟨us, []⟩) (ps.zip (us ++ [m1, m2])))
    (h1 : ∀ (D : Addr) (doc pm : Value) (an : Option Addr) (cdv ct : Value) (us : List Value) (m2 w1 : Value), us.length = n → KwChain D [(k2, m2)] (bindArgs (PySem.W.fnOf x qual params body scope .none (.ref D) doc pm an cdv ct) ⟨us, [(k1, w1)]⟩) (ps.zip (us ++ [w1, m2])))
    (h2 : ∀ (D : Addr) (doc pm : Value) (an : Option Addr) (cdv ct : Value) (us : List Value) (m1 w2 : Value), us.length = n → KwChain D [(k1, m1)] (bindArgs (PySem.W.fnOf x qual params body scope .none (.ref D) doc pm an cdv ct) ⟨us, [(k2, w2)]⟩) (ps.zip (us ++ [m1, w2])))
    (h3 : ∀ (D : Addr) (doc pm : Value) (an : Option Addr) (cdv ct : Value) (us : List Value) (w1 w2 : Value), us.length = n → KwChain D [] (bindArgs (PySem.W.fnOf x qual params body scope .none (.ref D) doc pm an cdv ct) ⟨us, [(k1, w1), (k2, w2)]⟩) (ps.zip (us ++ [w1, w2]))) :
    Kw2 K fd ps n k1 k2 d1 d2 where
  no := by
    obtain ⟨mv, h⟩ := F.kbinds0 n [] [(k1, d1), (k2, d2)] (fun us ms _ => us ++ ms) (by simp) (fun q h => h) (fun a b _ => Vals.app a b) fun D doc pm an cdv ct us mv ws l1 l2 l3 => match mv, ws, l2, l3 with | [m1, m2], [], _, _ => h0 D doc pm an cdv ct us m1 m2 l1
    exact ⟨_, h⟩
  one := by
    obtain ⟨mv, h⟩ := F.kbinds0 n [k1] [(k2, d2)] (fun us ms ws => us ++ (ws ++ ms)) (by simp) (fun q h => List.mem_cons_of_mem _ h) (fun a b c => Vals.app a (Vals.app c b)) fun D doc pm an cdv ct us mv ws l1 l2 l3 => match mv, ws, l2, l3 with | [m2], [w1], _, _ => h1 D doc pm an cdv ct us m2 w1 l1
    exact ⟨_, h⟩
  two := by
    obtain ⟨mv, h⟩ := F.kbinds0 n [k2] [(k1, d1)] (fun us ms ws => us ++ (ms ++ ws)) (by simp) (fun q h => by rw [List.mem_singleton.mp h]; exact List.mem_cons_self) (fun a b c => Vals.app a (Vals.app b c)) fun D doc pm an cdv ct us mv ws l1 l2 l3 => match mv, ws, l2, l3 with | [m1], [w2], _, _ => h2 D doc pm an cdv ct us m1 w2 l1
    exact ⟨_, h⟩
  all := by
    obtain ⟨mv, h⟩ := F.kbinds0 n [k1, k2] [] (fun us ms ws => us ++ ws) (by simp) (fun q h => nomatch h) (fun a b c => Vals.app a c) fun D doc pm an cdv ct us mv ws l1 l2 l3 => match mv, ws, l2, l3 with | [], [w1, w2], _, _ => h3 D doc pm an cdv ct us w1 w2 l1
    exact ⟨_, h⟩
/-- a def of the text with two keyword-only parameters that have defaults -/
theorem fundk_mk {K : PySem.W.Frag} {x qual k1 k2 : Str} {st : Stmt} {f D e1 e2 : Addr} {oc : Value} {od an : Option Addr} {osl : Array (Option Value)} {doc pm cdv ct : Value}
    (l : K.lookup f = some ⟨oc, od, .func (PySem.W.fnOf x qual (defArgs st) (defBody st) (defScope st) .none (.ref D) doc pm an cdv ct), osl⟩) (c : PySem.W.codeIn K cdv qual = true) (k : PySem.W.keepIn K (.ref f) = true)
    (h1 : PySem.W.nsIn K D k1 = some (some (.ref e1))) (h2 : PySem.W.nsIn K D k2 = some (some (.ref e2))) : FunD K x qual (defArgs st) (defBody st) (defScope st) [] [(k1, V.ref e1), (k2, V.ref e2)] f (PySem.W.fnOf x qual (defArgs st) (defBody st) (defScope st) .none (.ref D) doc pm an cdv ct) := by
  refine ⟨⟨oc, od, .none, .ref D, doc, pm, an, cdv, ct, osl, rfl, l, c, .inl ⟨rfl, rfl⟩, .inr ⟨D, rfl, fun q hq => ?_⟩⟩, k⟩
  cases hq with
  | head => exact ⟨_, h1, rfl⟩
  | tail _ hq =>
    cases hq with
    | head => exact ⟨_, h2, rfl⟩
    | tail _ hq => exact nomatch hq
/-- a class whose __init__ has two keyword-only parameters, their defaults empty tuples -/
structure CalK (P : Program) (w : World) (K : PySem.W.Frag) (mg : Str → Option Value) (base : Heap) (CX : CXT) (k : Nat) (x : Str) (C f : Addr) (fd : FuncData) (ps : List Str) (n : Nat) (k1 k2 : Str) (e1 e2 : Addr) (sp : Sp) : Prop where
  G : FnOk P w K mg base CX k f fd ps sp
  b : Kw2 K fd ps n k1 k2 (.ref e1) (.ref e2)
  mkc : Mk K C f
  m : mg x = some (.ref C)
  t1 : ∀ H, SqT K H e1 []
  t2 : ∀ H, SqT K H e2 []
section
variable {X : Cx} {CX : CXT} {k : Nat} {C f e1 e2 : Addr} {fd : FuncData} {ps : List Str} {sp : Sp} {E : XK} {x k1 k2 : Str} {p pos : Pos} {e : Expr} {es : List Expr} {t tk : TA} {kws : List Keyword} {n : Nat}
theorem pe_mkNo (c : CalK X.prog X.w X.K X.mg X.base CX k x C f fd ps (n + 1) k1 k2 e1 e2 sp) (hr : Room (k + 1) X.A) (hg : Gl X x) (hx : Passes CX X E) (ha : PA X (e :: es) t) (hkw : PK X [] tk) (hdb : (x == ("__debug__" : Str)) = false := by decide)
    (he : starEach (e :: es) X.env = (false, eval e X.env) :: starEach es X.env := by rfl) (hpl : ((backTo pos (starEach (e :: es) X.env)).any (·.1) || (backToKw pos (keywordEach [] X.env)).any (·.1.isNone)) = false := by rfl) (hall : (backToKw pos (keywordEach [] X.env)).all (·.1.isSome) = true := by rfl) (hks : (backToKw pos (keywordEach [] X.env)).filterMap (·.1) = [] := by rfl) :
    PE X (.Call (.Name x p) (e :: es) [] pos) (tMakeK C n 0 sp (fun vs _ => vs ++ [.ref e1, .ref e2]) E t tk) := by
  obtain ⟨g, hb⟩ := c.b.no
  exact pe_makeK c.mkc c.G hr hg c.m hb hx ha hkw hall hks hdb he hpl
theorem pe_mkOne (c : CalK X.prog X.w X.K X.mg X.base CX k x C f fd ps (n + 1) k1 k2 e1 e2 sp) (hr : Room (k + 1) X.A) (hg : Gl X x) (hx : Passes CX X E) (ha : PA X (e :: es) t) (hkw : PK X kws tk) (hdb : (x == ("__debug__" : Str)) = false := by decide)
    (he : starEach (e :: es) X.env = (false, eval e X.env) :: starEach es X.env := by rfl) (hpl : ((backTo pos (starEach (e :: es) X.env)).any (·.1) || (backToKw pos (keywordEach kws X.env)).any (·.1.isNone)) = false := by rfl) (hall : (backToKw pos (keywordEach kws X.env)).all (·.1.isSome) = true := by rfl) (hks : (backToKw pos (keywordEach kws X.env)).filterMap (·.1) = [k1] := by rfl) :
    PE X (.Call (.Name x p) (e :: es) kws pos) (tMakeK C n 1 sp (fun vs zs => vs ++ (zs ++ [.ref e2])) E t tk) := by
  obtain ⟨g, hb⟩ := c.b.one
  exact pe_makeK c.mkc c.G hr hg c.m hb hx ha hkw hall hks hdb he hpl
theorem pe_mkTwo (c : CalK X.prog X.w X.K X.mg X.base CX k x C f fd ps (n + 1) k1 k2 e1 e2 sp) (hr : Room (k + 1) X.A) (hg : Gl X x) (hx : Passes CX X E) (ha : PA X (e :: es) t) (hkw : PK X kws tk) (hdb : (x == ("__debug__" : Str)) = false := by decide)
    (he : starEach (e :: es) X.env = (false, eval e X.env) :: starEach es X.env := by rfl) (hpl : ((backTo pos (starEach (e :: es) X.env)).any (·.1) || (backToKw pos (keywordEach kws X.env)).any (·.1.isNone)) = false := by rfl) (hall : (backToKw pos (keywordEach kws X.env)).all (·.1.isSome) = true := by rfl) (hks : (backToKw pos (keywordEach kws X.env)).filterMap (·.1) = [k2] := by rfl) :
    PE X (.Call (.Name x p) (e :: es) kws pos) (tMakeK C n 1 sp (fun vs zs => vs ++ (.ref e1 :: zs)) E t tk) := by
  obtain ⟨g, hb⟩ := c.b.two
  exact pe_makeK c.mkc c.G hr hg c.m hb hx ha hkw hall hks hdb he hpl
theorem pe_mkAll (c : CalK X.prog X.w X.K X.mg X.base CX k x C f fd ps (n + 1) k1 k2 e1 e2 sp) (hr : Room (k + 1) X.A) (hg : Gl X x) (hx : Passes CX X E) (ha : PA X (e :: es) t) (hkw : PK X kws tk) (hdb : (x == ("__debug__" : Str)) = false := by decide)
    (he : starEach (e :: es) X.env = (false, eval e X.env) :: starEach es X.env := by rfl) (hpl : ((backTo pos (starEach (e :: es) X.env)).any (·.1) || (backToKw pos (keywordEach kws X.env)).any (·.1.isNone)) = false := by rfl) (hall : (backToKw pos (keywordEach kws X.env)).all (·.1.isSome) = true := by rfl) (hks : (backToKw pos (keywordEach kws X.env)).filterMap (·.1) = [k1, k2] := by rfl) :
    PE X (.Call (.Name x p) (e :: es) kws pos) (tMakeK C n 2 sp (fun vs zs => vs ++ zs) E t tk) := by
  obtain ⟨g, hb⟩ := c.b.all
  exact pe_makeK c.mkc c.G hr hg c.m hb hx ha hkw hall hks hdb he hpl
end
end El

set_option Elab.async false
set_option linter.all false
set_option maxRecDepth 100000
set_option maxHeartbeats 4000000
/-! Own words: iterating an own class whose `__iter__` returns iter(..) of a tuple. -/
namespace El
open PySem PySem.Spec PyProof.Rows L2
/-- a promise that may speak of how many objects there were at the call -/
def FnS (P : Program) (w : World) (K : PySem.W.Frag) (mg : Str → Option Value) (base : Heap) (CX : CXT) (k : Nat) (f : Addr) (sp : Nat → Sp) : Prop :=
  ∀ (A : Around) (outer : List Env) (s : Shared) (H : Hp) (us : List Value) (vs : List V) (Q : VK) (E : XK), Room k A → Env0 P w K mg base A outer s H → Vals vs us → sp s.heap.objs.size vs H Q E →
    codeAny (model P w) A (.call (.ref f) ⟨us, []⟩) (CR CX outer P w H s Q E) s
section
variable {P : Program} {w : World} {K : PySem.W.Frag} {mg : Str → Option Value} {base : Heap} {j k : Nat} {f : Addr} {sp : Nat → Sp}
theorem FnS.mono {CX : CXT} (F : FnS P w K mg base CX j f sp) (h : j ≤ k) : FnS P w K mg base CX k f sp := fun A outer s H us vs Q E hr => F A outer s H us vs Q E (hr.mono h)
theorem fun_okS {x qual : Str} {st : Stmt} {fd : FuncData} {N ps : List Str} (F : Fun K x qual st f fd) (S : FnScope N ps (defScope st)) (hb : Binds K fd ps []) (len : ∀ n vs H Q E, sp n vs H Q E → vs.length = ps.length)
    (hbody : ∀ (cdv : Value) (A : Around) (outer : List Env) (s : Shared) (H : Hp) (vs : List V) (Q : VK) (E : XK), Room k (A.deeper (envOfC qual (defScope st) s.heap.objs.size f cdv)) → sp s.heap.objs.size vs H Q E →
      ∃ t, PSs (cxOf CX0 P w K mg base N qual (defScope st) f cdv A outer s H E).nox (defBody st) t ∧ t { nx := fun _ H' => Q .non H', rt := Q } (start N vs) H) : FnS P w K mg base CX0 (k + 1) f sp := by
  obtain ⟨oc, od, kV, doc, pm, an, cdv, ct, osl, rfl, lk, hcd⟩ := F.ex
  intro A outer s H us vs Q E hr e0 r hsp
  have hl := len _ _ _ _ _ hsp
  have KX : K.In s.heap := e0.mod.kin.keeps fun b o e => (e0.bs b o e).1
  have bt := hb s us KX (by rw [List.append_nil, ← r.length]; exact hl)
  rw [List.append_nil] at bt
  have nl : s.heap.NoLimit := e0.mod.nolimit.keeps fun b o e => (e0.bs b o e).1
  refine codeAny_call_function hr.depth (KX _ _ lk) rfl S.co S.gen rfl (PySem.W.codeRec_of KX hcd) (bt _ _ _ _ ?_)
  refine wpAny_newFunctionEnv_cells S.kind (fun y hy => (S.par y.1 (List.of_mem_zip hy).1).imp id fun q => ⟨q, PySem.W.cellsFrom_some _ _ _ (.inl q)⟩) fun env he s1 x => ⟨nl.keeps x.toInCall.keep, codeAny_func ?_⟩
  subst he
  obtain ⟨t, ht, hq⟩ := hbody cdv A outer s H vs Q E (hr.deeper _) hsp
  have I := inv_start (CX := CX0) (w := w) (E := E) S hr.hd e0 hl r x
  refine wpAny_mono (ht.nox.run [] s1 (start N vs) H _ I hq) (fun fl s' hs => ?_) fun _ _ hs => hs
  match fl, hs with
  | .ret u, ⟨v, σ', H', J, rv, q⟩ => exact ⟨v, H', J.os, J.bare, J.base, J.hok, rv, q⟩
  | .next, ⟨σ', H', J, q⟩ => exact ⟨V.non, H', J.os, J.bare, J.base, J.hok, rfl, q⟩
  | .brk, ⟨_, _, _, q⟩ => exact False.elim q
  | .cont, ⟨_, _, _, q⟩ => exact False.elim q
end

/-! ### iter(..) of a tuple -/
def tiObj (t : Addr) : Obj := { cls := .type "tuple_iterator", data := .fields #[.ref t, .int 0 0] }
/-- at it the iterator of the tuple at t, at its beginning -/
def TitO (t it : Addr) : HO := .ext fun h => h.get? it = some (tiObj t)
theorem titO_ok {P : Program} {w : World} {H : Hp} {h : Heap} {t it : Addr} (e : h.get? it = some (tiObj t)) : ObjOk P w H h it (TitO t it) := ⟨e, ⟨_, e⟩, fun _ _ q k => k _ q⟩
theorem titO_get {X : Cx} {pins : List (Addr × Obj)} {σ : L2.St} {H : Hp} {s : Shared} {t it : Addr} (I : Inv X pins σ H s) (e : H it = some (TitO t it)) : s.heap.get? it = some (tiObj t) := (I.hok it _ e).1
def rIterT (K : PySem.W.Frag) (n : Nat) : List V → Hp → VK → Prop := fun xs H Q => ∃ (t : Addr) (zs : List V), xs = [.ref t] ∧ SqT K H t zs ∧ ∀ it, H it = none → n ≤ it → Q (.ref it) (upd H it (TitO t it))
theorem run_iterT {prog : Program} {w : World} {A : Around} {E : Value → Shared → Prop} {s : Shared} {t : Addr} {items : Array Value} {Q : Value → Shared → Prop} (ht : s.heap.IsTuple t items) (h : Q (.ref s.heap.objs.size) { s with heap := s.heap.push (tiObj t) }) : wpAny (model prog w) A (call (.builtin "iter") [.ref t]) Q E s := by
  refine Calls.call_function_entry (by decide +kernel) (by decide +kernel) PySem.W.kdk_entry_iter (PySem.W.kdk_args_iter _) ?_
  unfold Builtin.«iter»
  refine wpAny_bind (m := someArgs "iter" 1 2 _) (wpAny_of_eq (a := [Value.ref t]) (by first | rfl | kernel_rfl!) ?_)
  exact wpAny_bind (wpAny_pyIter_tuple ht (wpAny_pure ⟨_, rfl, h⟩))
theorem call_iterT {X : Cx} : CallR X (.builtin "iter") (rIterT X.K X.s_0.heap.objs.size) := by
  intro pins s σ H xs us Q I r h
  obtain ⟨t, zs, rfl, hq, q⟩ := h
  obtain rfl := Vals.ref1 r
  obtain ⟨its, rv, p, hz⟩ := I.tuple hq
  refine run_iterT (show s.heap.IsTuple t its.toArray from p) ?_
  exact ⟨.ref s.heap.objs.size, _, I.laid (t' := s.toks) (fun b u e => Heap.get?_push_of_some _ e) (Nat.le_refl _) (titO_ok (Heap.get?_push_size _ rfl)), rfl, q _ (I.hok.fresh (Nat.le_refl _)) I.sz⟩
theorem iterTK {X : Cx} (K : PySem.W.Frag) (n : Nat) (h : X.K = K := by rfl) (hn : X.s_0.heap.objs.size = n := by rfl) : CallR X (.builtin "iter") (rIterT K n) := h ▸ hn ▸ call_iterT

/-! ### for x in a, a of the class at C -/
structure OitC (K : PySem.W.Frag) (C f : Addr) : Prop where
  at_ : PySem.W.findIn K (.ref C) "__iter__" = some (some (.ref f))
  fn : PySem.W.isFn K (.ref f) = true
/-- behind the call the iterator is forgotten -/
def iOwnT (K : PySem.W.Frag) (C : Addr) (sp : Nat → Sp) (n : Nat) (E : XK) (te : TE) : TI := fun σ H R => te σ H fun x H1 => ∃ a dx fs, x = .ref a ∧ H1 a = some (.ins C dx fs) ∧ ∀ m, n ≤ m → sp m [.ref a] H1 (fun v H2 => ∃ t it, v = .ref it ∧ H2 it = some (TitO t it) ∧ n ≤ it ∧ R (Itt K t) (ItX.dropH H2 it)) E
theorem pi_ownT {X : Cx} {CX : CXT} {k : Nat} {C f : Addr} {sp : Nat → Sp} {E : XK} {tg e : Expr} {te : TE} (c : OitC X.K C f) (F : FnS X.prog X.w X.K X.mg X.base CX k f sp) (hr : Room k X.A) (hx : Passes CX X E) (he : PE X e te) : PI X tg e (iOwnT X.K C sp X.s_0.heap.objs.size E te) := by
  refine ⟨fun pins s σ H R I h => ?_⟩
  refine thn (he.run pins s σ H _ I h) fun v s1 ⟨x, H1, I1, r1, a, dx, fs, ex, ea, q⟩ => ?_
  subst ex
  obtain rfl : v = Value.ref a := r1
  obtain ⟨m, fr⟩ := I1.fr
  obtain ⟨mA, O, _⟩ := ins_get I1.hok ea
  obtain ⟨od, J, _⟩ := O.look
  refine PySem.W.owit_iter fr I1.ok.mod.kin J c.at_ c.fn ?_
  refine wpAny_call (codeAny_mono (F X.A X.stack s1 H1 [.ref a] [.ref a] _ E hr I1.env0 (.cons rfl .nil) (q _ I1.sz)) fun r s' hq => ?_)
  match r, hq with
  | .error e, hq => exact hx pins σ H1 s1 e s' I1 hq
  | .ok (.ret u), hq =>
    obtain ⟨w', H2, I2, rw', t, it, rfl, hi, hn, hR⟩ := I1.after hq
    obtain rfl : u = Value.ref it := rw'
    have eo := titO_get I2 hi
    have hi' := hi
    unfold TitO at hi'
    have LT : PySem.W.Looks (model X.prog X.w) s'.heap (typeOf (.ref it)) (.type "tuple_iterator") := (PySem.W.Looks.ld (part := none) eo).andThen .now
    have LN : PySem.W.Looks (model X.prog X.w) s'.heap (specialOf (.ref it) (Str.ofString "__next__")) (some (.builtin "tuple_iterator.__next__")) := LT.andThen (PySem.W.Looks.of_pure slot_tupleiter_next.lookup)
    refine LN.here ?_
    refine ⟨it, [it], _, _, ItX.dropH H2 it, rfl, ItX.inv_drop I2 hi', turn_tuple t it, ⟨_, eo, rfl, rfl⟩, fun b hb => ?_, hR⟩
    have e : b = it := by simpa using hb
    rw [e]
    exact ItX.inv_fp I2 hi hn
  | .ok .next, hq => exact False.elim hq
  | .ok .brk, hq => exact False.elim hq
  | .ok .cont, hq => exact False.elim hq
end El

set_option Elab.async false
set_option linter.all false
set_option maxRecDepth 100000
set_option maxHeartbeats 4000000
/-! Own words: len(set(xs)) of a list or a tuple of any number of texts. -/
namespace El
open PySem PySem.Spec PyProof.Rows L2
section
variable {prog : Program} {w : World} {A : Around} {E : Value → Shared → Prop} {s : Shared}
/-- what set.__init__ does to a new set with a list of texts -/
theorem init_txL {l : Addr} {items : Array Value} {xs : List Str} {led : Bool} (hh : A.handled = none) (hl : s.heap.IsList l items) (hi : PyProof.Rows.StrsAre items.toList xs) (hx : xs.length + 1 < scanBound) :
    codeAny (model prog w) A (.call (.builtin "set.__init__") ⟨[.ref s.heap.objs.size, .ref l], []⟩)
      (wants (fun r s2 => r = .none ∧ ∃ h' tk c, s2 = { s with heap := h', toks := tk } ∧ Cnt xs xs.length c ∧ h'.SetOf (PySem.strKind prog w) s.heap.objs.size (Has xs xs.length) c ∧ (∀ q o, s.heap.get? q = some o → h'.get? q = some o)) E)
      { s with heap := s.heap.push (setObj led) } := by
  have hT : Shared.TypeIs { s with heap := s.heap.push (setObj led) } (.ref s.heap.objs.size) "set" := ⟨_, Heap.get?_push_size _ rfl, rfl⟩
  refine codeAny_call_builtin PySem.F.called_set.init.plain PySem.F.entry_set_init (check_set_init_1 hT ?_)
  obtain ⟨⟨kc, kd, kx, ks⟩, hol, hcl, nl, hdl⟩ := hl
  simp only at hcl hdl
  subst hcl hdl
  have hol' : (s.heap.push (setObj led)).get? l = some _ := Heap.get?_push_of_some _ hol
  have hl1 : (s.heap.push (setObj led)).IsList l items := ⟨_, hol', rfl, nl, rfl⟩
  have hsls := PySem.F.sub_list_set
  have hslf := PySem.F.sub_list_frozenset
  have hne : (Value.type "list" == Value.type "dict") = false := by decide
  unfold Builtin.«set.__init__» noKeywords Builtin.Frozenset.updateFrom
  generalize ePI : pyIter = PI
  wp_walk
  subst ePI
  refine wpAny_pyIter_list hl1 (wpAny_bind (wpAny_runValue ?_))
  have below : l < s.heap.objs.size := Heap.lt_size hol
  have nh : A.in1.in1.handled = none := by simp [hh]
  have z1 : (s.heap.push (setObj led)).objs.size = s.heap.objs.size + 1 := Heap.size_push ..
  have apart : l ≠ (s.heap.push (setObj led)).objs.size := by
    rw [z1]
    exact Nat.ne_of_lt (Nat.lt_succ_of_lt below)
  have out : s.heap.objs.size ∉ [(s.heap.push (setObj led)).objs.size, l] := by
    rw [List.mem_cons, List.mem_singleton, z1]
    exact fun q => q.elim (Nat.ne_of_lt (Nat.lt_succ_self _)) (Nat.ne_of_gt below)
  have zx : xs.length = items.size := by rw [← StrsAre.len_eq hi, Array.length_toList]
  refine loopTx ((Walks.list nh _ l apart items).toS) s.heap.objs.size out xs zx (zx ▸ hx) (fun i v e => SS.strs_at hi i v (Array.getElem?_toList ▸ e)) (items.size - 0) 0 _ (by omega) (Nat.zero_le _) ?at_ ?first ?last
  case at_ => exact ⟨⟨_, Heap.get?_push_size _ rfl, rfl, rfl⟩, hl1.push _⟩
  case first =>
    refine ⟨0, Cnt.nil xs, ?_⟩
    refine SetOf_congr ((PyProof.Rows.setObjOf_fresh (knd := PySem.strKind prog w) led).setOf (Heap.get?_push_of_some _ (Heap.get?_push_size _ rfl)) (by unfold scanBound; omega)) (fun y => ?_) rfl
    rfl
  case last =>
    rintro ⟨h', g', d', tk', os'⟩ c mv hc ho
    obtain rfl : g' = s.gens := mv.gens
    obtain rfl : d' = s.drawn := mv.drawn
    obtain rfl : os' = s.os := mv.os
    refine wpAny_pure (wpAny_pure ⟨rfl, h', tk', c, rfl, zx ▸ hc, zx ▸ ho, fun q o e => ?_⟩)
    have lq := Heap.lt_size e
    refine mv.heap q o (by rw [List.mem_cons, List.mem_singleton, z1]; exact fun z => z.elim (Nat.ne_of_lt lq) (Nat.ne_of_lt (Nat.lt_succ_of_lt lq))) (Heap.get?_push_of_some _ (Heap.get?_push_of_some _ e))
set_option maxHeartbeats 8000000 in
theorem call_set_txL {l : Addr} {items : Array Value} {xs : List Str} {Q : Value → Shared → Prop} (hh : A.handled = none) (hl : s.heap.IsList l items) (hi : PyProof.Rows.StrsAre items.toList xs) (hx : xs.length + 1 < scanBound)
    (h : ∀ (h' : Heap) (tk c : Nat), Cnt xs xs.length c → h'.SetOf (PySem.strKind prog w) s.heap.objs.size (Has xs xs.length) c → (∀ q o, s.heap.get? q = some o → h'.get? q = some o) → Q (.ref s.heap.objs.size) { s with heap := h', toks := tk }) :
    wpAny (model prog w) A (call (.type "set") [.ref l]) Q E s := by
  obtain ⟨_, _, hmro⟩ := PySem.F.called_set.mro
  have hmade := PySem.F.called_set.made
  have hsub := PySem.F.called_set.sub
  have h1 := PySem.F.called_set.notType
  have h2 := PySem.F.called_set.canCreate
  have hct := PySem.F.typeCall_set_1 (.ref l)
  refine wpAny_call (codeAny_of_tree (wpAny_pure (a := _) ⟨Code.quiet_builtin _ (by decide +kernel), codeAny_builtin PySem.F.entry_type_call ?_⟩))
  rw [Around.under_plain (weight_type_call_type "set" [.ref l] []) rfl]
  repeat (any_goals (first | assumption | wp_step))
  refine codeAny_mono (code_set_new_1 (.ref l) (E := E) (Q₁ := fun v s1 => ∃ led, v = .ref s.heap.objs.size ∧ s1 = { s with heap := s.heap.push (setObj led) }) fun led => ⟨led, rfl, rfl⟩) fun r s1 hr => ?_
  match r, hr with
  | .ok (.ret v), hr =>
    obtain ⟨led, rfl, rfl⟩ := hr
    have hS : (s.heap.push (setObj led)).get? s.heap.objs.size = some (setObj led) := Heap.get?_push_size _ rfl
    have hT : Shared.TypeIs { s with heap := s.heap.push (setObj led) } (.ref s.heap.objs.size) "set" := ⟨_, hS, rfl⟩
    have hli := PySem.F.called_set.init.lookup
    have hbi := PySem.F.called_set.init.bind (.ref s.heap.objs.size)
    repeat (any_goals (first | assumption | wp_step))
    refine codeAny_mono (init_txL (E := E) (by simp [hh]) hl hi hx) fun r s2 hr => ?_
    match r, hr with
    | .ok (.ret v), hr =>
      obtain ⟨rfl, h', tk, c, rfl, hc, ho, keep⟩ := hr
      repeat (any_goals (first | assumption | wp_step))
      exact h h' tk c hc ho keep
    | .error e, hr => exact hr
    | .ok .next, hr => exact hr.elim
    | .ok .brk, hr => exact hr.elim
    | .ok .cont, hr => exact hr.elim
  | .error e, hr => exact hr
  | .ok .next, hr => exact hr.elim
  | .ok .brk, hr => exact hr.elim
  | .ok .cont, hr => exact hr.elim
end
/-- len(set(xs)), xs a tuple or a list of texts -/
def tLenSetS (K : PySem.W.Frag) (ta : TE) : TE := fun σ H Q => ta σ H fun x H1 => ∃ (l : Addr) (xs : List Str), x = .ref l ∧ (SqT K H1 l (xs.map V.str) ∨ SqL K H1 l (xs.map V.str)) ∧ xs.length < 64 ∧ ∀ c : Nat, c ≤ xs.length → (c = xs.length ↔ xs.Nodup) → Q (.int c) H1
theorem pe_lenSetS {X : Cx} {a : Expr} {ta : TE} {p p2 q pos : Pos} (K : PySem.W.Frag) (hg : Gl X "len") (hm : X.mg "len" = none) (hg2 : Gl X "set") (hm2 : X.mg "set" = none) (ha : PE X a ta) (hc : X.calm = true := by rfl)
    (na : starEach [a] X.env = (false, eval a X.env) :: starEach [] X.env := by rfl) (hK : X.K = K := by rfl) : PE X (.Call (.Name "len" p) [.Call (.Name "set" p2) [a] [] q] [] pos) (tLenSetS K ta) := by
  subst hK
  refine ⟨fun pins s σ H Q I h => Call_ (ld_blt I hg hm boot_len (PyProof.Rows.callWith_builtin1 (PyProof.Rows.args_cons (Call_ (ld_blt I hg2 hm2 boot_set (PyProof.Rows.callWith_type1 (PyProof.Rows.args_cons (thn (ha.run pins s σ H _ I h) fun v s1 ⟨x, H1, I1, r1, q1⟩ => PyProof.Rows.args_nil ?_) na) na rfl))) rfl) rfl rfl))⟩
  obtain ⟨l, xs, rfl, ht, few, q1⟩ := q1
  obtain rfl : v = Value.ref l := r1
  have fin : ∀ (h' : Heap) (tk c : Nat), Cnt xs xs.length c → h'.SetOf (PySem.strKind X.prog X.w) s1.heap.objs.size (Has xs xs.length) c → (∀ q o, s1.heap.get? q = some o → h'.get? q = some o) → wpAny (model X.prog X.w) X.A (call (.builtin "len") [.ref s1.heap.objs.size]) (EP X pins σ Q) X.xe { s1 with heap := h', toks := tk } := fun h' tk c hcn hS keep => by
    obtain ⟨o, es, ep, tb, ho, hex, hd, _, _, _, hf, hn⟩ := hS
    have I2 : Inv X pins σ H1 { s1 with heap := h', toks := tk } := I1.kept keep
    obtain ⟨c1, c2⟩ := hcn
    rw [List.take_length] at c2
    exact call_len_set ho hex hd hf (by rw [hn]; omega) ⟨.int c, H1, I2.tok _, ⟨_, by rw [hn]⟩, q1 c c1 c2⟩
  rcases ht with ht | ht
  · obtain ⟨its, rv, pl, _⟩ := I1.tuple ht
    exact call_set_tx (I1.ok.hd hc) pl (by simpa using strsAre_of rv) (by unfold scanBound; omega) fun h' tk c hcn hS keep => PyProof.Rows.args_nil (fin h' tk c hcn hS keep)
  · obtain ⟨its, rv, pl, _⟩ := I1.list ht
    exact call_set_txL (I1.ok.hd hc) pl.isList (by simpa using strsAre_of rv) (by unfold scanBound; omega) fun h' tk c hcn hS keep => PyProof.Rows.args_nil (fin h' tk c hcn hS keep)
end El

set_option Elab.async false
set_option linter.all false
set_option maxRecDepth 100000
set_option maxHeartbeats 4000000
/-! Own words: enumerate(t) of a tuple. -/
namespace El
open PySem PySem.Spec PyProof.Rows L2
open AutoSeq1 (wpAny_loadPart')
/-- the tuple at a, each item in a new pair with its place -/
def IteT (K : PySem.W.Frag) (a : Addr) : It where
  go := fun i H => ∃ (xs : List V) (x : V), SqT K H a xs ∧ xs[i]? = some x
  yld := fun i H v H' => ∃ T x, v = .ref T ∧ H T = none ∧ H' = upd H T (.tup [.int (i : Nat), x]) ∧ ∀ xs, SqT K H a xs → xs[i]? = some x
  stop := fun i H => ∃ xs : List V, SqT K H a xs ∧ xs.length ≤ i
theorem walk_enumT {K : PySem.W.Frag} {a : Addr} {xs : List V} : Walk (IteT K a) xs.length (fun H => SqT K H a xs) (YPair (fun i => some (.int (i : Nat))) (fun i => xs[i]?)) where
  goes := fun i _ hi q => ⟨xs, xs[i], q, by simp [hi]⟩
  stops := fun _ q => ⟨xs, q, Nat.le_refl _⟩
  yields := fun i H v H' _ q y => by
    obtain ⟨T, x, h1, h2, h3, h4⟩ := y
    exact ⟨T, .int (i : Nat), x, h1, h2, h3, rfl, h4 xs q⟩
/-- the object of an enumerate over it, at its beginning -/
def enObj (it : Addr) : Obj := { cls := .type "enumerate", data := .fields #[.none, .bool false, .ref it, rawInt 0, .none, .none] }
theorem enum_newT (t : Addr) (items : Array Value) (n : Nat) (dct : Option Addr) (sl : Array (Option Value)) :
    Meets (Builtin.«enumerate.__new__» ⟨[.type "enumerate", .ref t], []⟩) (fun _ R s => s.heap.get? t = some ⟨.type "tuple", dct, .seq items n, sl⟩ ∧ R (.ok (.ret (.ref (s.heap.push (tiObj t)).objs.size))) { s with heap := (s.heap.push (tiObj t)).push (enObj s.heap.objs.size) }) :=
  .of_wp fun prog w A R s h => by
    obtain ⟨hp, g, d, tk, os⟩ := s
    obtain ⟨ht, h⟩ := h
    have hsub := sub_enumerate
    have hT : Heap.IsTuple (Shared.heap ⟨hp, g, d, tk, os⟩) t items := ⟨_, ht, rfl, n, rfl⟩
    wp_walk using wpAny_loadPart' ht
    refine wpAny_stack_any fun st => wpAny_pure ?_
    split
    · rename_i c _ _ _ _ _
      cases (c == Value.type "enumerate") <;> (wp_walk using wpAny_loadPart' ht, wpAny_pyIter_tuple hT; exact ⟨_, rfl, h⟩)
    · wp_walk using wpAny_loadPart' ht, wpAny_pyIter_tuple hT
      exact ⟨_, rfl, h⟩
section
variable {prog : Program} {w : World} {A : Around} {E : Value → Shared → Prop} {s : Shared}
theorem call_enumT {t : Addr} {items : Array Value} {Q : Value → Shared → Prop} (hT : s.heap.IsTuple t items)
    (h : ∀ h', IsEnum h' (s.heap.objs.size + 1) s.heap.objs.size 0 .none → h'.IsTupleIter s.heap.objs.size t 0 → (∀ b o, s.heap.get? b = some o → h'.get? b = some o) → Q (.ref (s.heap.objs.size + 1)) { s with heap := h' }) :
    wpAny (model prog w) A (call (.type "enumerate") [.ref t]) Q E s := by
  obtain ⟨⟨c, dct, dt, sl⟩, ht, hc, n, hd⟩ := hT
  simp only at hc hd
  subst hc hd
  refine callType_new F.called_enumerate (by decide) (F.typeCall_enumerate_1 _) (F.newCall_enumerate_1 _) (fun obj => F.args_object_init_2 obj _) F.entry_enumerate_new (enum_newT t items n dct sl) ⟨ht, ?_⟩
  have hz : (s.heap.push (tiObj t)).objs.size = s.heap.objs.size + 1 := Heap.size_push ..
  have he : IsEnum ((s.heap.push (tiObj t)).push (enObj s.heap.objs.size)) (s.heap.objs.size + 1) s.heap.objs.size 0 .none := by
    have q := Heap.get?_push_size (s.heap.push (tiObj t)) (o := enObj s.heap.objs.size) rfl
    rw [hz] at q
    exact q
  rw [hz]
  exact ⟨⟨_, he, rfl⟩, h _ he ⟨_, Heap.get?_push_of_some _ (Heap.get?_push_size _ rfl), rfl, rfl⟩ fun b o x => Heap.get?_push_of_some _ (Heap.get?_push_of_some _ x)⟩
end
theorem turn_enumT {P : Program} {w : World} {K : PySem.W.Frag} {elts : List Expr} {kk : Nat} {tpos : Pos} (t e it : Addr) (items : Array Value) :
    Turn P w K (.Tuple elts kk tpos) (IteT K t) [e, it] e (fun i h => (∃ old, IsEnum h e it ((i : Nat) : Int) old) ∧ h.IsTupleIter it t i ∧ e ≠ it ∧ t ≠ it ∧ t ≠ e) where
  mem := List.mem_cons_self
  obj := fun i h st b hb => by
    obtain ⟨⟨old, he⟩, ⟨o, ho, hc, hd⟩, _⟩ := st
    rw [List.mem_cons, List.mem_singleton] at hb
    rcases hb with z | z
    · exact z ▸ ⟨_, he, fun v q => nomatch q⟩
    · exact z ▸ ⟨o, ho, fun v q => by rw [hd] at q; cases q⟩
  keep := fun i h h' st k => by
    obtain ⟨⟨old, he⟩, hi, hne⟩ := st
    exact ⟨⟨old, k e List.mem_cons_self _ he⟩, hi.at fun o q => k it (List.mem_cons_of_mem _ List.mem_cons_self) o q, hne⟩
  item := by
    intro X hP hw hK hc i pins s σ H E I hf st hg
    subst hP hw hK
    obtain ⟨⟨old, he⟩, hit, hne, n1, n2⟩ := st
    obtain ⟨xs, x, hq, hx⟩ := hg
    obtain ⟨its, rv, p, hz⟩ := I.tuple hq
    obtain ⟨u, hu, ru⟩ := rv.get hx
    have lt : i < its.toArray.size := by
      have := (List.getElem?_eq_some_iff.mp hu).1
      simpa using this
    have le : e < s.heap.objs.size := Heap.lt_size he
    have li : it < s.heap.objs.size := by obtain ⟨_, q, _⟩ := hit; exact Heap.lt_size q
    have nf : e ∉ [it, t] := by
      rw [List.mem_cons, List.mem_singleton]
      exact fun z => z.elim hne fun z => n2 z.symm
    refine wpAny_pyNext_enum_itemD (Draws.tuple (A := X.A.in1) (by simpa using I.ok.hd hc) it t n1 its.toArray) he ⟨hit, p⟩ lt hne nf fun v h' tk hv ho hit' hT hsz hk => ?_
    obtain rfl : v = u := by
      have e1 : its.toArray[i]? = some u := by simpa using hu
      exact Option.some.inj (hv.symm.trans e1)
    refine ⟨_, rfl, wpAny_letOwnedTupleGo_enum (s := { s with heap := h', toks := tk + 1 }) ho fun h'' he' sb => ?_⟩
    have hT2 := (sb.2 _ (Nat.ne_of_gt le)).trans hT
    have new : ObjOk X.prog X.w (upd H s.heap.objs.size (.tup [.int (i : Nat), x])) h'' s.heap.objs.size (.tup [.int (i : Nat), x]) :=
      ⟨by show 2 ≤ sizeLine; decide, [.int i tk, v], .cons ⟨_, rfl⟩ (.cons ru .nil), ⟨_, hT2, rfl, _, rfl⟩⟩
    have I1 : Inv X pins σ (upd H s.heap.objs.size (.tup [.int (i : Nat), x])) { s with heap := h'', toks := tk + 1 } := by
      refine I.turnedNew (ch := [e, it]) (fun b ob hb q => ?_) hf (Nat.le_refl _) new
      rw [List.mem_cons, List.mem_singleton, not_or] at hb
      exact (sb.2 b hb.1).trans (hk b ob hb.1 hb.2 q)
    refine ⟨.ref s.heap.objs.size, _, I1, rfl, ⟨_, x, rfl, I.hok.fresh (Nat.le_refl _), rfl, fun ys hy => by rw [I.tuple_inj hy hq]; exact hx⟩, ⟨⟨v, ?_⟩, hit'.1.at fun o q => (sb.2 it (Ne.symm hne)).trans q, hne, n1, n2⟩, fun b hb => ?_⟩
    · have e1 : ((i + 1 : Nat) : Int) = (i : Int) + 1 := by omega
      rw [e1]
      exact he'
    · have lb : b < s.heap.objs.size := by
        rw [List.mem_cons, List.mem_singleton] at hb
        rcases hb with z | z
        · rw [z]; exact le
        · rw [z]; exact li
      rw [upd_ne (Nat.ne_of_lt lb)]
      exact (hf b hb).1
  done := by
    intro X hP hw hK hc i pins s σ H E I hf st hg
    subst hP hw hK
    obtain ⟨⟨old, he⟩, hit, hne, n1, n2⟩ := st
    obtain ⟨xs, hq, hx⟩ := hg
    obtain ⟨its, rv, p, hz⟩ := I.tuple hq
    obtain ⟨f0, f1, f2, f3, f4, f5⟩ := hf it (List.mem_cons_of_mem _ List.mem_cons_self)
    have none_ : its.toArray[i]? = none := by
      have hl := rv.length
      simp
      omega
    have D : Draws X.prog X.w X.A.in1 it [it, t] 0 (fun _ _ => False) (fun _ h => h.IsTupleIter it t i ∧ h.IsTuple t its.toArray) :=
      { live := fun _ _ st => let ⟨o, ho, _⟩ := st.1; ⟨o, ho⟩
        frame := fun _ _ _ st hk => ⟨st.1.at fun o e => hk it List.mem_cons_self o e, st.2.at fun o e => hk t (List.mem_cons_of_mem _ List.mem_cons_self) o e⟩
        item := fun _ _ _ _ z => absurd z (Nat.not_lt_zero _)
        done := fun s Q E st hE => wpAny_nextOf_tuple_end (by simpa using I.ok.hd hc) st.1 st.2 none_ hE }
    exact wpAny_pyNext_enum_endD D he ⟨hit, p⟩ fun h' eb => ⟨rfl, I.turned (t' := s.toks) (fun b o hb q => eb b o hb q) f0 f1 f3 f4 f5⟩
  self := fun A i s Q E st h => by
    obtain ⟨⟨_, he⟩, _⟩ := st
    exact wpAny_pyIter_enum he h
def iEnumT (K : PySem.W.Frag) (ta : TA) : TI := fun σ H R => ta σ H fun vs H1 => ∃ a xs, vs = [.ref a] ∧ SqT K H1 a xs ∧ R (IteT K a) H1
theorem pi_enumT {X : Cx} {e : Expr} {ta : TA} {p pos tpos : Pos} {elts : List Expr} {kk : Nat} (hg : Gl X "enumerate") (hm : X.mg "enumerate" = none) (ha : PA X [e] ta) (hs : starEach [e] X.env = [(false, eval e X.env)] := by rfl) :
    PI X (.Tuple elts kk tpos) (.Call (.Name "enumerate" p) [e] [] pos) (iEnumT X.K ta) := by
  refine ⟨fun pins s σ H R I h => Call_ (ld_blt I hg hm boot_enumerate (PyProof.Rows.callWith_type1 (thn (ha.run pos pins s σ H _ I h) fun us s1 ⟨vs, H1, I1, r1, a, xs, ex, hq, q⟩ => ?_) hs rfl))⟩
  subst ex
  obtain rfl := Vals.ref1 r1
  obtain ⟨its, rv, pt, hz⟩ := I1.tuple hq
  have la : a < s1.heap.objs.size := by obtain ⟨o, ho, _⟩ := pt; exact Heap.lt_size ho
  refine call_enumT pt fun h' he hit hk => wpAny_pyIter_enum he ?_
  refine ⟨s1.heap.objs.size + 1, [s1.heap.objs.size + 1, s1.heap.objs.size], _, _, H1, rfl, I1.kept (t' := s1.toks) hk, turn_enumT a (s1.heap.objs.size + 1) s1.heap.objs.size its.toArray, ⟨⟨.none, he⟩, hit, Nat.succ_ne_self _, Nat.ne_of_lt la, Nat.ne_of_lt (Nat.lt_succ_of_lt la)⟩, fun b hb => ?_, q⟩
  have hle : s1.heap.objs.size ≤ b := by
    rw [List.mem_cons, List.mem_singleton] at hb
    rcases hb with z | z
    · exact z ▸ Nat.le_succ _
    · exact z ▸ Nat.le_refl _
  exact I1.fpOk hle (I1.hok.fresh hle)
end El

set_option Elab.async false
set_option linter.all false
set_option maxRecDepth 100000
set_option maxHeartbeats 4000000
/-! Own words: a list or a tuple walked; own classes made, read by [..] inside a try; own exceptions without arguments. -/
namespace El
open PySem PySem.Spec PyProof.Rows L2 NdefX
section
variable {X : Cx} {tg l : Expr} {tl : TE}
def iSeq (K : PySem.W.Frag) (tl : TE) : TI := fun σ H R => tl σ H fun x H1 => ∃ a xs, x = .ref a ∧ ((SqL K H1 a xs ∧ R (Itl K a) H1) ∨ (SqT K H1 a xs ∧ R (Itt K a) H1))
theorem pi_seq (hl : PE X l tl) : PI X tg l (iSeq X.K tl) := by
  refine ⟨fun pins s σ H R I h => thn (hl.run pins s σ H _ I h) fun v s1 ⟨x, H1, I1, r1, a, xs, ex, q⟩ => ?_⟩
  subst ex
  obtain rfl : v = Value.ref a := r1
  have new : ∀ b ∈ [s1.heap.objs.size], FpOk X pins H1 b := fun b hb => by
    rw [List.mem_singleton] at hb
    exact hb ▸ I1.fpOk (Nat.le_refl _) (I1.hok.fresh (Nat.le_refl _))
  rcases q with ⟨hq, q⟩ | ⟨hq, q⟩
  · obtain ⟨its, rv, p, _⟩ := I1.list hq
    exact wpAny_pyIter_list p.isList ⟨_, _, _, _, H1, rfl, I1.kept (t' := s1.toks) fun b o e => Heap.get?_push_of_some _ e, turn_list a _, ⟨_, Heap.get?_push_size _ rfl, rfl, rfl⟩, new, q⟩
  · obtain ⟨its, rv, p, _⟩ := I1.tuple hq
    exact wpAny_pyIter_tuple p ⟨_, _, _, _, H1, rfl, I1.kept (t' := s1.toks) fun b o e => Heap.get?_push_of_some _ e, turn_tuple a _, ⟨_, Heap.get?_push_size _ rfl, rfl, rfl⟩, new, q⟩
end
theorem pi_seqK {X : Cx} {tg l : Expr} {tl : TE} (K : PySem.W.Frag) (hl : PE X l tl) (h : X.K = K := by rfl) : PI X tg l (iSeq K tl) := h ▸ pi_seq hl
section
variable {X : Cx} {CX : CXT} {k : Nat} {C f : Addr} {fd : FuncData} {ps : List Str} {ds : List Value} {dvs : List V} {sp : Sp} {E : L2.St → XK} {x : Str} {p pos : Pos} {a b e : Expr} {es : List Expr} {ta tb : TE} {t : TA}
/-- C(e, ..), what its __init__ lets out being taken where it stands -/
def tMakeS (C : Addr) (sp : Sp) (E : L2.St → XK) (t : TA) : TE := fun σ H Q => t σ H fun vs H1 => ∀ x dx, H1 x = none → H1 dx = none → dx ≠ x → sp (.ref x :: vs) (upd (upd H1 dx (.own x)) x (.ins C dx [])) (fun v H2 => v = .non ∧ Q (.ref x) H2) (E σ)
theorem run_makeS {pins : List (Addr × Obj)} {σ : L2.St} {H : Hp} {s : Shared} {Q : VK} {us : List Value} {vs : List V} {E : XK} (M : Mk X.K C f) (F : FnOk X.prog X.w X.K X.mg X.base CX k f fd ps sp) (hr : Room (k + 1) X.A) (hb : Binds X.K fd ps [])
    (hx : PassesAt CX X σ E) (I : Inv X pins σ H s) (r : Vals vs us)
    (h : ∀ x dx, H x = none → H dx = none → dx ≠ x → sp (.ref x :: vs) (upd (upd H dx (.own x)) x (.ins C dx [])) (fun v H2 => v = .non ∧ Q (.ref x) H2) E) : wpAny (model X.prog X.w) X.A (call (.ref C) us) (EP X pins σ Q) X.xe s := by
  have fresh := fun n hn => I.hok.fresh (a := n) hn
  have q := h (s.heap.objs.size + 1) s.heap.objs.size (fresh _ (Nat.le_succ _)) (fresh _ (Nat.le_refl _)) (Nat.ne_of_lt (Nat.lt_succ_self _))
  have J := Inv.made (C := C) I
  have rr : Vals (V.ref (s.heap.objs.size + 1) :: vs) (Value.ref (s.heap.objs.size + 1) :: us) := .cons rfl r
  have hl : (Value.ref (s.heap.objs.size + 1) :: us ++ []).length = ps.length := by rw [List.append_nil, ← rr.length]; exact F.len _ _ _ _ q
  have bt := hb _ (Value.ref (s.heap.objs.size + 1) :: us) J.kIn hl
  rw [List.append_nil] at bt
  refine wpAny_call (make_map (f := f) I.kIn M.makes M.init (beq_iff_eq.mp M.fn) (codeAny_mono (F.run _ X.stack _ _ ⟨Value.ref (s.heap.objs.size + 1) :: us, []⟩ _ _ _ E (hr.make C us []) (J.env0.make C us []) bt rr q) fun r s' hs => ?_))
  match r, hs with
  | .error e, hs => exact hx pins _ _ e s' J hs
  | .ok (.ret u), hs =>
    obtain ⟨v, H', J', rv, ev, q'⟩ := J.after hs
    subst ev
    exact ⟨rv, V.ref (s.heap.objs.size + 1), H', J', rfl, q'⟩
  | .ok .next, hs => exact False.elim hs
  | .ok .brk, hs => exact False.elim hs
  | .ok .cont, hs => exact False.elim hs
theorem pe_makeS (M : Mk X.K C f) (F : FnOk X.prog X.w X.K X.mg X.base CX k f fd ps sp) (hr : Room (k + 1) X.A) (hg : Gl X x) (hm : X.mg x = some (.ref C)) (hb : Binds X.K fd ps []) (hx : ∀ σ, PassesAt CX X σ (E σ)) (ha : PA X (e :: es) t)
    (hdb : (x == ("__debug__" : Str)) = false := by decide) (he : starEach (e :: es) X.env = (false, eval e X.env) :: starEach es X.env := by rfl) (hpl : (backTo pos (starEach es X.env)).any (·.1) = false := by rfl) :
    PE X (.Call (.Name x p) (e :: es) [] pos) (tMakeS C sp E t) := by
  refine ⟨fun pins s σ H Q I h => wpAny_Call_Name_kw (ld_glob I hg hm ?_ hdb)⟩
  refine PySem.W.callWith_K (h₀ := X.base) I.ok.mod.kin M.kp (thn (ha.run pos pins s σ H _ I h) fun us s1 ⟨vs, H1, I1, r, q⟩ => ⟨I1.kIn, ?_⟩) he hpl
  exact run_makeS M F hr hb (hx σ) I1 r q
/-- an own class's `__getitem__`, as it is read by [..] -/
structure SubC (K : PySem.W.Frag) (C f : Addr) : Prop where
  at_ : PySem.W.findIn K (.ref C) "__getitem__" = some (some (.ref f))
  fn : PySem.W.isFn K (.ref f) = true
  fi : PySem.W.fnIn K f = true
/-- a[y], a of the class at C, what it lets out being taken where it stands -/
def tItS (C : Addr) (sp : Sp) (E : L2.St → XK) (ta tb : TE) : TE := fun σ H Q => ta σ H fun x H1 => tb σ H1 fun y H2 => ∃ a dx fs, x = .ref a ∧ H2 a = some (.ins C dx fs) ∧ sp [.ref a, y] H2 Q (E σ)
theorem pe_itS (c : SubC X.K C f) (F : FnOk X.prog X.w X.K X.mg X.base CX k f fd ps sp) (hr : Room (k + 1) X.A) (hb : Binds X.K fd ps []) (hx : ∀ σ, PassesAt CX X σ (E σ)) (ha : PE X a ta) (hb2 : PE X b tb)
    (hs : ∀ o i, subscripted b true o i = runValue (.builtin "lifetime.subscript" ⟨[o, i], []⟩) := by intro _ _; rfl) : PE X (.Subscript a b pos) (tItS C sp E ta tb) := by
  refine ⟨fun pins s σ H Q I h => Subscript_ (binT ha hb2 I (R := fun x y H2 => ∃ a dx fs, x = .ref a ∧ H2 a = some (.ins C dx fs) ∧ sp [.ref a, y] H2 Q (E σ)) h fun v u s2 x y H2 I2 rx ry q => ?_)⟩
  obtain ⟨a, dx, fs, rfl, ea, q⟩ := q
  obtain rfl : v = Value.ref a := rx
  obtain ⟨m, fr⟩ := I2.fr
  obtain ⟨mA, O, _⟩ := ins_get I2.hok ea
  obtain ⟨od, J, _⟩ := O.look
  refine PySem.W.sub_K fr I2.ok.mod.kin J c.at_ c.fi c.fn ?_ (hs _ _)
  have hl : ([Value.ref a, u] ++ []).length = ps.length := F.len _ _ _ _ q
  have bt := hb s2 [.ref a, u] I2.kIn hl
  rw [List.append_nil] at bt
  refine wpAny_call (codeAny_mono (F.run X.A.in1 X.stack s2 H2 ⟨[.ref a, u], []⟩ [.ref a, u] [.ref a, y] Q (E σ) hr.in1 I2.env0.in1 bt (.cons rfl (.cons ry .nil)) q) fun r s' hq => ?_)
  match r, hq with
  | .error e, hq => exact hx σ pins H2 s2 e s' I2 hq
  | .ok (.ret u), hq => exact I2.after hq
  | .ok .next, hq => exact False.elim hq
  | .ok .brk, hq => exact False.elim hq
  | .ok .cont, hq => exact False.elim hq
end
section
variable {X : Cx} {CX : CXT} {k : Nat} {C f : Addr} {fd : FuncData} {ps : List Str} {sp : Sp} {E : XK} {pos : Pos} {a b : Expr} {ta tb : TE}
theorem pe_itO (c : SubC X.K C f) (F : FnOk X.prog X.w X.K X.mg X.base CX k f fd ps sp) (hr : Room (k + 1) X.A) (hb : Binds X.K fd ps []) (hx : Passes CX X E) (ha : PE X a ta) (hb2 : PE X b tb)
    (hs : ∀ o i, subscripted b true o i = runValue (.builtin "lifetime.subscript" ⟨[o, i], []⟩) := by intro _ _; rfl) : PE X (.Subscript a b pos) (tItS C sp (fun _ => E) ta tb) :=
  pe_itS c F hr hb (fun σ pins H s e s' I h => hx pins σ H s e s' I h) ha hb2 hs
end
/-! ### an own exception made without arguments -/
section
variable {X : Cx} {p pos : Pos}
theorem pmk_oex0 {CX : CXT} {x : Str} {C fI : Addr} {k : Nat} {fd : FuncData} {ps : List Str} {sp : Sp} (T : OexC X.K C) (iC : PySem.W.findIn X.K (.ref C) "__init__" = some (some (.ref fI))) (tI : PySem.W.typeIn X.K (.ref fI) = some (.type "function"))
    (F1 : FnOk X.prog X.w X.K X.mg X.base CX k fI fd ps sp) (hr : Room (k + 1) X.A) (hb : Binds X.K fd ps []) (hx : Passes CX X (fun _ _ _ => False)) (hg : Gl X x) (hm : X.mg x = some (.ref C)) (hdb : (x == ("__debug__" : Str)) = false := by decide) :
    PMk X (.Call (.Name x p) [] [] pos) (tMkO C sp [] tNil) := by
  intro pins s σ H Q I h
  obtain ⟨nm, q, N, bs, bm, sn, sub, ab, col, dd, k0, k1, k2, k3, k5, hC, hbm⟩ := T.cls
  refine wpAny_Call_Name_kw (ld_glob I hg hm ?_ hdb)
  refine PySem.W.callWith_K0 I.kIn T.kC ?_
  obtain ⟨_, q1⟩ := h
  obtain ⟨hp, g, dr, tk, os⟩ := s
  have up : hp.objs.size ≤ hp.objs.size + 1 := Nat.le_succ _
  have hq := q1 (hp.objs.size + 1) (I.hok.fresh up)
  have stay : ∀ b o, hp.get? b = some o → ((hp.push (PySem.W.kdv_tup [])).push (PySem.HandSPX.excO C hp.objs.size)).get? b = some o := fun b o e => Heap.get?_push_of_some _ (Heap.get?_push_of_some _ e)
  have there : ((hp.push (PySem.W.kdv_tup [])).push (PySem.HandSPX.excO C hp.objs.size)).get? (hp.objs.size + 1) = some (PySem.HandSPX.excO C hp.objs.size) := by heap_get
  have I2 := I.laid (t' := tk) (a := hp.objs.size + 1) (o := exo (hp.objs.size + 1) C none) (h' := (hp.push (PySem.W.kdv_tup [])).push (PySem.HandSPX.excO C hp.objs.size)) stay up (exo_ok there)
  have hl : ([Value.ref (hp.objs.size + 1)] ++ []).length = ps.length := F1.len _ _ _ _ hq
  refine wpAny_call (PySem.HandSPX.call_own F.excBase_ValueError (fun Y => PySem.HandSPX.refsVE_contains Y bm hbm) (I.kIn _ _ hC) (PySem.W.looks_findIn I.kIn iC) (fun self => PySem.W.bind_fn I.kIn self tI) (Nat.zero_le _)
    (codeAny_mono (F1.run _ X.stack _ _ ⟨[Value.ref (hp.objs.size + 1)], []⟩ [Value.ref (hp.objs.size + 1)] _ _ (fun _ _ _ => False) (hr.make C [] []) (I2.env0.make C [] []) (hb _ [Value.ref (hp.objs.size + 1)] I2.kIn hl) (show Vals [V.ref (hp.objs.size + 1)] [Value.ref (hp.objs.size + 1)] from .cons rfl .nil) hq) fun r s' hs => ?_))
  match r, hs with
  | .error er, hs => exact hx pins σ _ _ er s' I2 hs
  | .ok (.ret u), hs =>
    obtain ⟨v, H2, os2, bare2, un2, hok2, rv, ev, d, fs, ea, ed, hd1, q2⟩ := hs
    subst ev
    obtain ⟨h2, g2, d2, t2, os'⟩ := s'
    exact ⟨rv, mk_end (raises_own T.exC T.tyC) I up stay un2 hok2 os2 bare2 ea ed hd1 q2⟩
  | .ok .next, hs => exact False.elim hs
  | .ok .brk, hs => exact False.elim hs
  | .ok .cont, hs => exact False.elim hs
end
/-! ### lists turned round, places of items -/
theorem mt_reverseL {X : Cx} : MtM X "list.reverse" (fun x vs H Q => ∃ l xs, x = .ref l ∧ vs = [] ∧ H l = some (.lst xs) ∧ Q .non (upd H l (.lst xs.reverse))) := by
  intro pins s σ H x vs v us Q I rx rv h
  obtain ⟨l, xs, rfl, rfl, hH, q⟩ := h
  obtain rfl : v = Value.ref l := rx
  obtain rfl := rv.zero
  obtain ⟨z, its, n, r, hl, e⟩ := I.lstM hH
  have few : its.length ≤ sizeLine := by rw [← r.length]; omega
  refine call_meets F.slot_list_reverse ⟨_, e, rfl⟩ F.entry_list_reverse (F.args_list_reverse_1 _) (AutoSeq1.list_reverse_list_0 l its.toArray n (by simpa using few)) ⟨e, ?_⟩
  exact ⟨.non, _, I.lset (its' := its.reverse) (ys := xs.reverse) hH e (by simp) r.reverse (by rw [List.length_reverse]; omega), rfl, q⟩
theorem mindexK {X : Cx} (K : PySem.W.Frag) (h : X.K = K := by rfl) : MtR X "list.index" (rIndex K) := h ▸ mt_index
theorem mtupK {X : Cx} (K : PySem.W.Frag) (h : X.K = K := by rfl) : MtR X "tuple.index" (fun x xs H Q => ∃ p, ∃ ys : List Str, ∃ z j, x = .ref p ∧ xs = [.str z] ∧ SqT K H p (ys.map V.str) ∧ ys[j]? = some z ∧ (∀ m, m < j → ys[m]? ≠ some z) ∧ Q (.int (j : Nat)) H) := h ▸ mt_tup_index
/-! ### defs of own classes, ready to be called -/
structure CalIn (P : Program) (w : World) (K : PySem.W.Frag) (mg : Str → Option Value) (base : Heap) (CX : CXT) (k : Nat) (C f : Addr) (fd : FuncData) (ps : List Str) (sp : Sp) : Prop extends CalB P w K mg base CX k f fd ps sp where
  ic : InC K C f
structure CalSub (P : Program) (w : World) (K : PySem.W.Frag) (mg : Str → Option Value) (base : Heap) (CX : CXT) (k : Nat) (C f : Addr) (fd : FuncData) (ps : List Str) (sp : Sp) : Prop extends CalB P w K mg base CX k f fd ps sp where
  su : SubC K C f
structure CalIt (P : Program) (w : World) (K : PySem.W.Frag) (mg : Str → Option Value) (base : Heap) (CX : CXT) (k : Nat) (C f : Addr) (sp : Nat → Sp) : Prop where
  F : FnS P w K mg base CX k f sp
  oi : OitC K C f
end El

set_option Elab.async false
set_option linter.all false
set_option maxRecDepth 100000
set_option maxHeartbeats 4000000
/-! Own words: an own exception whose __init__ takes nothing and keeps nothing. -/
namespace El
open PySem PySem.Spec PyProof.Rows L2 NdefX
/-- its __init__ -/
def spE0 (C : Addr) : Sp := fun vs H Q _ => ∃ a : Addr, vs = [.ref a] ∧ H a = some (exo a C none) ∧ Q .non H
/-- the end of C(): the exception is let go -/
theorem mk_none {X : Cx} {pins : List (Addr × Obj)} {σ : L2.St} {H1 : Hp} {Q : XK} {hp hp2 h2 : Heap} {g1 g2 : Array GenState} {d1 d2 : Drawn} {t1 t2 : Nat} {os1 os2 : OsState} {a C : Addr} (T : Raises X (.ref C)) (I1 : Inv X pins σ H1 ⟨hp, g1, d1, t1, os1⟩)
    (ha : hp.objs.size ≤ a) (k : ∀ b o, hp.get? b = some o → hp2.get? b = some o) (un : Un (frs X.stack) [] (upd H1 a (exo a C none)) (upd H1 a (exo a C none)) hp2 h2) (hok : HOk X.prog X.w (upd H1 a (exo a C none)) h2) (ho : os2 = os1) (hb : AllBare g2)
    (q : Q (.ref C) none H1) : MkP X pins σ Q (.ref a) ⟨h2, g2, d2, t2, os2⟩ := by
  have ea : (upd H1 a (exo a C none)) a = some (exo a C none) := upd_same
  obtain ⟨t0, hoe⟩ := exo_at hok ea
  have na : H1 a = none := I1.hok.fresh ha
  obtain ⟨G, g1', g2'⟩ := restrict h2 fun b => decide (b ≠ a)
  have gk : ∀ {b}, b ≠ a → G.get? b = h2.get? b := fun {b} z => g1' b (decide_eq_true z)
  have ge : G.get? a = none := g2' a (by simp)
  have old : ∀ {b : Addr} {o : Obj}, hp.get? b = some o → b ≠ a := fun {b o} z => Nat.ne_of_lt (Nat.lt_of_lt_of_le (Heap.lt_size z) ha)
  have up : ∀ {b : Addr}, b ≠ a → H1 b = none → upd H1 a (exo a C none) b = none := fun {b} z n => by rw [upd_ne z]; exact n
  have U : Un (frs X.stack) [] H1 H1 hp G :=
    { keep := fun b o z n hf hx => (gk (old z)).trans (un.keep b o (k b o z) (up (old z) n) hf hx)
      slot := fun b o z n hf hx => by
        rw [gk (old z)]
        exact un.slot b o (k b o z) (up (old z) n) hf hx
      free := fun b o z n hx => n
      there := fun b o z hx => by
        rw [gk (old z)]
        exact un.there b o (k b o z) hx
      tups := fun b xs z => z
      frzs := fun b o v z => z
      tbls := fun b ps z => ⟨#[], by rw [Array.append_empty]; exact z⟩ }
  have own_ne : ∀ {b c : Addr}, upd H1 a (exo a C none) c = some (.own b) → c ≠ a := fun {b c} z => at_ne ea z exo_own
  have hok3 : HOk X.prog X.w H1 G := fun b o z => by
    have hba : b ≠ a := fun e => by rw [e, na] at z; cases z
    refine (hok b o (by rw [upd_ne hba]; exact z)).stay (fun c v hc y => ?_) (fun c hc => ?_) (fun c xs hc => ?_)
    · have hca : c ≠ a := hc.elim (fun e => e ▸ hba) fun e => own_ne e
      exact (gk hca).trans y
    · have := own_ne hc
      rwa [upd_ne this] at hc
    · have := at_ne ea hc exo_tup
      rwa [upd_ne this] at hc
  have J : Inv X pins σ H1 ⟨G, g2, d2, t2, os2⟩ := I1.call' (ch := []) ho U hok3 hb (fun b z => absurd z (by simp))
  refine ⟨a, _, _, ⟨G, g2, d2, t2, os2⟩, _, .ref C, none, rfl, J, fun b o z => ?_, ge, hoe, ⟨rfl, rfl⟩, rfl, rfl, na, rfl, hb, T, q⟩
  by_cases hba : b = a
  · rw [hba, ge] at z
    cases z
  · exact (gk hba).symm.trans z
section
variable {X : Cx} {p pos : Pos}
theorem pmk_none {CX : CXT} {x : Str} {C fI : Addr} {k : Nat} {fd : FuncData} {ps : List Str} (T : OexC X.K C) (iC : PySem.W.findIn X.K (.ref C) "__init__" = some (some (.ref fI))) (tI : PySem.W.typeIn X.K (.ref fI) = some (.type "function"))
    (F1 : FnOk X.prog X.w X.K X.mg X.base CX k fI fd ps (spE0 C)) (hr : Room (k + 1) X.A) (hb : Binds X.K fd ps []) (hx : Passes CX X (fun _ _ _ => False)) (hg : Gl X x) (hm : X.mg x = some (.ref C)) (hdb : (x == ("__debug__" : Str)) = false := by decide) :
    PMk X (.Call (.Name x p) [] [] pos) (fun _ H Q => Q (.ref C) none H) := by
  intro pins s σ H Q I h
  obtain ⟨nm, q, N, bs, bm, sn, sub, ab, col, dd, k0, k1, k2, k3, k5, hC, hbm⟩ := T.cls
  refine wpAny_Call_Name_kw (ld_glob I hg hm (PySem.W.callWith_K0 I.kIn T.kC ?_) hdb)
  obtain ⟨hp, g, dr, tk, os⟩ := s
  have up : hp.objs.size ≤ hp.objs.size + 1 := Nat.le_succ _
  have hq : spE0 C [V.ref (hp.objs.size + 1)] (upd H (hp.objs.size + 1) (exo (hp.objs.size + 1) C none)) (fun v H2 => v = .non ∧ H2 = upd H (hp.objs.size + 1) (exo (hp.objs.size + 1) C none)) (fun _ _ _ => False) := ⟨_, rfl, upd_same, rfl, rfl⟩
  have stay : ∀ b o, hp.get? b = some o → ((hp.push (PySem.W.kdv_tup [])).push (PySem.HandSPX.excO C hp.objs.size)).get? b = some o := fun b o e => Heap.get?_push_of_some _ (Heap.get?_push_of_some _ e)
  have there : ((hp.push (PySem.W.kdv_tup [])).push (PySem.HandSPX.excO C hp.objs.size)).get? (hp.objs.size + 1) = some (PySem.HandSPX.excO C hp.objs.size) := by heap_get
  have I2 := I.laid (t' := tk) (a := hp.objs.size + 1) (o := exo (hp.objs.size + 1) C none) (h' := (hp.push (PySem.W.kdv_tup [])).push (PySem.HandSPX.excO C hp.objs.size)) stay up (exo_ok there)
  have hl : ([Value.ref (hp.objs.size + 1)] ++ []).length = ps.length := F1.len _ _ _ _ hq
  refine wpAny_call (PySem.HandSPX.call_own F.excBase_ValueError (fun Y => PySem.HandSPX.refsVE_contains Y bm hbm) (I.kIn _ _ hC) (PySem.W.looks_findIn I.kIn iC) (fun self => PySem.W.bind_fn I.kIn self tI) (Nat.zero_le _)
    (codeAny_mono (F1.run _ X.stack _ _ ⟨[Value.ref (hp.objs.size + 1)], []⟩ [Value.ref (hp.objs.size + 1)] _ _ (fun _ _ _ => False) (hr.make C [] []) (I2.env0.make C [] []) (hb _ [Value.ref (hp.objs.size + 1)] I2.kIn hl) (show Vals [V.ref (hp.objs.size + 1)] [Value.ref (hp.objs.size + 1)] from .cons rfl .nil) hq) fun r s' hs => ?_))
  match r, hs with
  | .error er, hs => exact hx pins σ _ _ er s' I2 hs
  | .ok (.ret u), hs =>
    obtain ⟨v, H2, os2, bare2, un2, hok2, rv, ev, eH⟩ := hs
    subst ev eH
    obtain ⟨h2, g2, d2, t2, os'⟩ := s'
    exact ⟨rv, mk_none (raises_own T.exC T.tyC) I up stay un2 hok2 os2 bare2 h⟩
  | .ok .next, hs => exact False.elim hs
  | .ok .brk, hs => exact False.elim hs
  | .ok .cont, hs => exact False.elim hs
end
/-- the class, its __init__, ready for a raise -/
structure CalE0 (P : Program) (w : World) (K : PySem.W.Frag) (mg : Str → Option Value) (base : Heap) (k : Nat) (x : Str) (C f : Addr) (fd : FuncData) (ps : List Str) : Prop where
  G : FnOk P w K mg base CX0 k f fd ps (spE0 C)
  b : Binds K fd ps []
  X : ExK K C f []
  m : mg x = some (.ref C)
/-- isinstance(e, c), e the exception that the suite holds, without a dict -/
theorem call_isN {X : Cx} {a : Addr} {oe : Obj} {cls : Value} {d : Option Addr} {pn : List (Addr × Obj)} (hz : Zc cls d oe) (hf : ∃ vs, oe.data = .fields vs) : CallR (X.suite a ((a, oe) :: pn)) (.builtin "isinstance") (fun xs H Q => rIsX X.K cls d a xs H Q ∨ ∃ (D : Addr) (c : V) (cv : Value) (b : Bool), xs = [.ref a, c] ∧ cls = .ref D ∧ d = none ∧ ExcC X.K D ∧ (∀ u, RelV c u → u = cv) ∧ PySem.W.kitOne X.K (.ref D) cv = some b ∧ Q (.bl b) H) := by
  intro pins s σ H xs us Q I r h
  rcases h with h | ⟨D, c, cv, b, rfl, rfl, rfl, C, hcv, e, q⟩
  · exact call_isX hz hf pins s σ H xs us Q I r h
  cases r with
  | cons rx rr =>
    cases rr with
    | cons rt rr =>
      cases rr
      cases rx
      have ec := hcv _ rt
      subst ec
      obtain ⟨hget, _⟩ := I.pin (a, oe) (List.mem_append.mpr (.inl List.mem_cons_self))
      obtain ⟨vs, hv⟩ := hf
      have J : PySem.W.InstAt s.heap a oe D none := ⟨hget, hz.1, by unfold PySem.W.notCls; rw [hv] <;> rfl, by rw [hz.2]; exact trivial⟩
      obtain ⟨cdD, hcD, _⟩ := PySem.W.any_some C.hd
      exact PySem.W.kia_one (PySem.W.kitx_exc (by rw [hcD]; rfl) C.hg C.hk C.hs C.ha C.hn C.ht C.hm) I.kIn J e (fun z => nomatch z) fun tk => ⟨.bl b, H, I.kept (t' := tk) fun _ _ z => z, rfl, q⟩
end El

set_option Elab.async false
set_option linter.all false
set_option maxRecDepth 100000
set_option maxHeartbeats 4000000
/-! Own words: operators of own classes with a text, t[::-1] of a tuple. -/
namespace El
open PySem PySem.Spec PyProof.Rows L2
/-! ### a op z, a of the class at C, z a text -/
section
variable {X : Cx} {CX : CXT} {k : Nat} {C f : Addr} {fd : FuncData} {ps : List Str} {sp : Sp} {E : L2.St → XK} {op : Operator} {a b : Expr} {ta tb : TE} {pos : Pos}
def tTxtS (C : Addr) (sp : Sp) (E : L2.St → XK) (ta tb : TE) : TE := fun σ H Q => ta σ H fun x H1 => tb σ H1 fun y H2 => ∃ a dx fs z, x = .ref a ∧ y = .str z ∧ H2 a = some (.ins C dx fs) ∧ sp [.ref a, .str z] H2 Q (E σ)
theorem run_opS {pins : List (Addr × Obj)} {σ : L2.St} {H : Hp} {s : Shared} {Q : VK} {y a : Addr} {z : Str} {t : PySem.Tok} (c : OpT X.K C f op "str") (F : FnOk X.prog X.w X.K X.mg X.base CX k f fd ps sp) (hr : Room k X.A) (hb : Binds X.K fd ps []) (hx : PassesAt CX X σ (E σ)) (I : Inv X pins σ H s)
    {dx : Addr} {fs : List (Str × V)} (ea : H a = some (.ins C dx fs)) (q : sp [.ref a, .str z] H Q (E σ)) : wpAny (model X.prog X.w) X.A (binaryOp op (.ref a) (.str z t)) (EP X pins σ Q) X.xe s := by
  obtain ⟨m, fr⟩ := I.fr
  obtain ⟨mA, O, _⟩ := ins_get I.hok ea
  obtain ⟨od, J, _⟩ := O.look
  obtain ⟨rc, hr1, hr2⟩ := c.hr
  obtain ⟨fo, h1⟩ := c.h1
  obtain ⟨ro, h2⟩ := c.h2
  refine PySem.W.ksp_binT fr I.ok.mod.kin J (T := "str") rfl c.c.sf c.c.at_ c.c.fn hr1 hr2 h1 h2 c.sub ?_
  exact wpAny_mono (run_fnS (us := [.ref a, .str z t]) (vs := [.ref a, .str z]) F hr hb hx I (.cons rfl (.cons ⟨t, rfl⟩ .nil)) q) (fun u' s' h' => cmpBack_of h') fun _ _ z => z
theorem pe_bopTS (c : OpT X.K C f op "str") (F : FnOk X.prog X.w X.K X.mg X.base CX k f fd ps sp) (hr : Room k X.A) (hb : Binds X.K fd ps []) (hx : ∀ σ, PassesAt CX X σ (E σ)) (ha : PE X a ta) (hb2 : PE X b tb) : PE X (.BinOp a op b pos) (tTxtS C sp E ta tb) := by
  refine ⟨fun pins s σ H Q I h => wpAny_BinOp (thn (ha.run pins s σ H _ I h) fun v s1 ⟨x, H1, I1, rx, q1⟩ => thn (hb2.run pins s1 σ H1 _ I1 q1) fun u s2 ⟨y, H2, I2, ry, a, dx, fs, z, ex, ey, ea, q⟩ => ?_)⟩
  subst ex ey
  obtain rfl : v = Value.ref a := rx
  obtain ⟨t, rfl⟩ := ry
  exact run_opS (y := a) c F hr hb (hx σ) I2 ea q
end
section
variable {X : Cx} {CX : CXT} {k : Nat} {C f : Addr} {fd : FuncData} {ps : List Str} {sp : Sp} {E : XK} {op : Operator} {a b : Expr} {ta tb : TE} {pos : Pos}
theorem pe_bopT (c : OpT X.K C f op "str") (F : FnOk X.prog X.w X.K X.mg X.base CX k f fd ps sp) (hr : Room k X.A) (hb : Binds X.K fd ps []) (hx : Passes CX X E) (ha : PE X a ta) (hb2 : PE X b tb) : PE X (.BinOp a op b pos) (tTxtS C sp (fun _ => E) ta tb) :=
  pe_bopTS c F hr hb (fun σ pins H s e s' I h => hx pins σ H s e s' I h) ha hb2
end
/-! ### z + a, z a text: __radd__ -/
structure RadC (K : PySem.W.Frag) (C f : Addr) : Prop where
  sf : PySem.W.selfFirst K C = true
  add : ∃ g : Addr, PySem.W.findIn K (.ref C) (PySem.dunder "add") = some (some (.ref g))
  at_ : PySem.W.findIn K (.ref C) (PySem.dunderR "add") = some (some (.ref f))
  fn : PySem.W.isFn K (.ref f) = true
section
open PySem.W PySem.Calls
variable {prog : Program} {w : World} {A : Around} {E : Value → Shared → Prop} {s : Shared} {K : PySem.W.Frag} {x C f : Addr} {ox : Obj} {od : Option Obj}
theorem rad_run {z : Str} {t : PySem.Tok} {Q : Value → Shared → Prop} (X : K.In s.heap) (I : PySem.W.InstAt s.heap x ox C od) (c : RadC K C f)
    (h : wpAny (model prog w) A (call (.ref f) [.ref x, .str z t]) (PySem.W.CmpBack Q) E s) : wpAny (model prog w) A (binaryOp .Add (.str z t) (.ref x)) Q E s := by
  obtain ⟨cd, rest, hcd, hm⟩ := PySem.W.ksp_first c.sf
  obtain ⟨gm, hg⟩ := c.add
  have one := PySem.W.ksp_try X I c.at_ c.fn h
  obtain ⟨hh, g, d, tt, os⟩ := s
  have L1 : Looks (model prog w) hh (typeOf (.str z t)) (.type "str") := Looks.of_pure rfl
  have L2 : Looks (model prog w) hh (typeOf (.ref x)) (.ref C) := I.type
  have L3 : Looks (model prog w) hh (fillsNumberSlot (.type "str") "add") false := Looks.of_pure PySem.noFill_str_add
  have L4 : Looks (model prog w) hh (fillsNumberSlot (.ref C) "add") true := fills_K X hcd hm hg
  have hne : (Value.type "str" == Value.ref C) = false := Bool.eq_false_iff.mpr fun q => by cases beq_iff_eq.mp q
  have hi : Operator.Add.info = ("+", "add") := rfl
  simp only [binaryOp, hi]
  refine wpAny_holding (wpAny_bind ?_)
  unfold binaryOp1
  refine wpAny_bind (L1.at (wpAny_bind (L2.at (wpAny_bind (L3.at ?_)))))
  simp only [hne, Bool.false_eq_true, if_false]
  ksp_lk
  refine wpAny_mono one (fun r s' hr' => ?_) fun _ _ e => e
  obtain ⟨v, rfl, hq⟩ := hr'
  first
    | exact wpAny_bind (wpAny_rule (wpAny_pure (wpAny_pure hq)))
    | (ksp_lk; exact hq)
end
section
variable {X : Cx} {CX : CXT} {k : Nat} {C f : Addr} {fd : FuncData} {ps : List Str} {sp : Sp} {E : L2.St → XK} {a b : Expr} {ta tb : TE} {pos : Pos}
def tRadS (C : Addr) (sp : Sp) (E : L2.St → XK) (ta tb : TE) : TE := fun σ H Q => ta σ H fun x H1 => tb σ H1 fun y H2 => ∃ a dx fs z, x = .str z ∧ y = .ref a ∧ H2 a = some (.ins C dx fs) ∧ sp [.ref a, .str z] H2 Q (E σ)
theorem pe_radS (c : RadC X.K C f) (F : FnOk X.prog X.w X.K X.mg X.base CX k f fd ps sp) (hr : Room k X.A) (hb : Binds X.K fd ps []) (hx : ∀ σ, PassesAt CX X σ (E σ)) (ha : PE X a ta) (hb2 : PE X b tb) : PE X (.BinOp a .Add b pos) (tRadS C sp E ta tb) := by
  refine ⟨fun pins s σ H Q I h => wpAny_BinOp (thn (ha.run pins s σ H _ I h) fun v s1 ⟨x, H1, I1, rx, q1⟩ => thn (hb2.run pins s1 σ H1 _ I1 q1) fun u s2 ⟨y, H2, I2, ry, a, dx, fs, z, ex, ey, ea, q⟩ => ?_)⟩
  subst ex ey
  obtain ⟨t, rfl⟩ := rx
  obtain rfl : u = Value.ref a := ry
  obtain ⟨mA, O, _⟩ := ins_get I2.hok ea
  obtain ⟨od, J, _⟩ := O.look
  refine rad_run I2.kIn J c ?_
  exact wpAny_mono (run_fnS (us := [.ref a, .str z t]) (vs := [.ref a, .str z]) F hr hb (hx σ) I2 (.cons rfl (.cons ⟨t, rfl⟩ .nil)) q) (fun u' s' h' => cmpBack_of h') fun _ _ z => z
end
/-! ### a += z -/
structure InpC (K : PySem.W.Frag) (C f : Addr) (op : Operator) : Prop where
  sf : PySem.W.selfFirst K C = true
  at_ : PySem.W.findIn K (.ref C) (PySem.dunderI op.info.2) = some (some (.ref f))
  fn : PySem.W.isFn K (.ref f) = true
section
variable {X : Cx} {CX : CXT} {k : Nat} {C f : Addr} {fd : FuncData} {ps : List Str} {sp : Sp} {E : L2.St → XK} {op : Operator} {x : Str} {i : Nat} {e : Expr} {te : TE} {pos pos' : Pos}
/-- a name's own object op= a text, what it lets out being taken where it stands -/
def tAugTS (i : Nat) (C : Addr) (sp : Sp) (E : L2.St → XK) (te : TE) : TS := fun D σ H => ∃ a, σ[i]? = some (some (V.ref a)) ∧ te σ H fun y H1 => ∃ dx fs z, y = .str z ∧ H1 a = some (.ins C dx fs) ∧ sp [.ref a, .str z] H1 (fun v H2 => D.nx (σ.set i (some v)) H2) (E σ)
theorem ps_augTS (hN : X.N.Nodup) (hi : X.N[i]? = some x) (hx0 : Loc X.env.scope x) (c : InpC X.K C f op) (F : FnOk X.prog X.w X.K X.mg X.base CX k f fd ps sp) (hr : Room k X.A) (hb : Binds X.K fd ps []) (hx : ∀ σ, PassesAt CX X σ (E σ)) (he : PE X e te)
    (hf : X.fn x = true ∨ X.env.scope.names.lookup x = some .local := by first | exact .inl rfl | exact .inr rfl | assumption) : PS X (.AugAssign (.Name x pos') op e pos) (tAugTS i C sp E te) := by
  refine ⟨fun pins s σ H D I h => ?_⟩
  obtain ⟨a, e1, h⟩ := h
  obtain ⟨m, hn, hl⟩ := I.loc
  have vis : Vis X.env.scope x := hx0.elim (fun k => .inl k) fun k => .inr (.inl k)
  obtain ⟨u, r, l⟩ := hl i x _ hi e1 vis
  obtain rfl : u = Value.ref a := r
  refine wpAny_AugAssign_Name ?_
  have go : wpAny (model X.prog X.w) X.A (eval e X.env) (fun w s₂ => wpAny (model X.prog X.w) X.A (inplaceOp op (.ref a) w) (fun r s₃ => wpAny (model X.prog X.w) X.A (storeName X.env x r) (fun _ => SP X pins D .next) X.xe s₃) X.xe s₂) X.xe s := by
    refine thn (he.run pins s σ H _ I h) fun w s1 ⟨y, H1, I1, r1, dx, fs, z, ey, ea, q⟩ => ?_
    subst ey
    obtain ⟨t, rfl⟩ := r1
    obtain ⟨m1, fr⟩ := I1.fr
    obtain ⟨mA, O, _⟩ := ins_get I1.hok ea
    obtain ⟨od, J, _⟩ := O.look
    have run := PySem.W.ksp_inplace (b := .str z t) fr I1.ok.mod.kin J c.sf c.at_ c.fn (wpAny_mono (run_fnS (us := [.ref a, .str z t]) (vs := [.ref a, .str z]) F hr hb (hx σ) I1 (.cons rfl (.cons ⟨t, rfl⟩ .nil)) q) (fun u' s' h' => cmpBack_of h') fun _ _ z => z)
    exact thn run fun z s2 ⟨zv, H2, I2, r2, q2⟩ => store_ok I2 hN hi hx0 r2 (fun s3 I3 => ⟨_, H2, I3, q2⟩) hf
  rcases l with ⟨hk, hm⟩ | ⟨hk, c, hc, hcell⟩
  · exact wpAny_loadName_local I.ok.kind hk hn hm go
  · have no : ∀ q : NameKind, X.env.scope.names.lookup x = some .free → X.env.scope.names.lookup x = some q → q = .free := fun q h1 h2 => (Option.some.inj (h1.symm.trans h2)).symm
    rcases hk with hk | hk
    · exact wpAny_loadName_cell I.ok.kind hk hc hcell go
    · rcases hx0 with k | k
      · exact nomatch no _ hk k
      · exact nomatch no _ hk k
end
/-! ### t[::-1] -/
section
variable {prog : Program} {w : World} {A : Around} {E : Value → Shared → Prop} {s : Shared}
theorem adjust_rev (n : Nat) : Builtin.Slice.sliceAdjust none none (-1) (n : Int) = ((n : Int) - 1, -1) := rfl
theorem places_rev (n : Nat) : Builtin.Slice.slicePlaces ((n : Int) - 1) (-1) (-1) = n := by
  unfold Builtin.Slice.slicePlaces
  rw [if_neg (by decide)]
  by_cases h : (n : Int) - 1 > -1
  · rw [if_pos h]
    have : ((n : Int) - 1 - -1 - 1) / (- -1) = (n : Int) - 1 := by
      rw [show (- -1 : Int) = 1 by decide, Int.ediv_one]
      omega
    rw [this]
    omega
  · rw [if_neg h]
    omega
theorem fm_congr {f g : Nat → Option Value} : ∀ {l : List Nat}, (∀ x ∈ l, f x = g x) → l.filterMap f = l.filterMap g
  | [], _ => rfl
  | y :: r, h => by
    have h1 := h y List.mem_cons_self
    have h2 := fm_congr (l := r) fun x hx => h x (List.mem_cons_of_mem _ hx)
    cases e : g y with
    | none => rw [List.filterMap_cons_none (h1.trans e), List.filterMap_cons_none e, h2]
    | some v => rw [List.filterMap_cons_some (h1.trans e), List.filterMap_cons_some e, h2]
theorem pick_rev (xs : Array Value) : ((List.range xs.size).filterMap fun (k : Nat) => xs[((xs.size : Int) - 1 + (k : Int) * -1).toNat]?).toArray = xs.toList.reverse.toArray := by
  have e : ∀ k ∈ List.range xs.size, (fun (k : Nat) => xs[((xs.size : Int) - 1 + (k : Int) * -1).toNat]?) k = (xs.toList.reverse)[k]? := fun k hk => by
    have hk := List.mem_range.mp hk
    have e1 : ((xs.size : Int) - 1 + (k : Int) * -1).toNat = xs.size - 1 - k := by omega
    show xs[((xs.size : Int) - 1 + (k : Int) * -1).toNat]? = _
    rw [e1, List.getElem?_reverse (by simpa using hk), Array.getElem?_toList, Array.length_toList]
  rw [fm_congr e]
  congr 1
  have all : ∀ l : List Value, (List.range l.length).filterMap (fun k => l[k]?) = l := fun l => by
    induction l with
    | nil => rfl
    | cons y r ih =>
      rw [List.length_cons, List.range_succ_eq_map, List.filterMap_cons_some (f := fun k => (y :: r)[k]?) (b := y) rfl, List.filterMap_map]
      exact congrArg (y :: ·) ih
  have := all xs.toList.reverse
  rw [List.length_reverse, Array.length_toList] at this
  exact this
theorem applied_rev {sl : Addr} {vs : Value} {n : Nat} {Q : Int × Int × Nat → Shared → Prop} (hs : s.heap.IsSliceOf sl .none .none vs) (pv : IsPart vs (some (-1))) (h : Q ((n : Int) - 1, -1, n) s) : wpAny (model prog w) A (Builtin.Slice.sliceApplied (.ref sl) (pure (n : Int))) Q E s := by
  obtain ⟨os, hos, hcs, hds⟩ := id hs
  unfold Builtin.Slice.sliceApplied Builtin.Slice.sliceFields
  refine wpAny_bind (wpAny_bind (wpAny_field hos hds (x := .none) rfl (wpAny_bind (wpAny_field hos hds (x := .none) rfl (wpAny_bind (wpAny_field hos hds (x := vs) rfl (wpAny_pure ?_)))))))
  refine wpAny_bind (HT.slicePart_ pv ?_)
  show wpAny _ _ (if ((-1 : Int) == 0) = true then _ else _) _ _ s
  rw [if_neg (by decide)]
  refine wpAny_bind (slicePart_none (wpAny_bind (slicePart_none (wpAny_bind (wpAny_pure ?_)))))
  show wpAny _ _ (pure ((n : Int) - 1, (-1 : Int), Builtin.Slice.slicePlaces ((n : Int) - 1) (-1) (-1))) _ _ s
  rw [places_rev]
  exact wpAny_pure h
theorem getItem_rev {t sl : Addr} {items : Array Value} {vs : Value} {Q : Value → Shared → Prop} (ht : IsTup s.heap t items) (hs : s.heap.IsSliceOf sl .none .none vs) (pv : IsPart vs (some (-1)))
    (h : Q (.ref s.heap.objs.size) { s with heap := s.heap.push { cls := .type "tuple", data := .seq items.toList.reverse.toArray } }) (hsz : items.size ≤ sizeLine) : wpAny (model prog w) A (getItem (.ref t) (.ref sl)) Q E s := by
  have fits : sizeOk (.seq items.toList.reverse.toArray) := by
    show items.toList.reverse.toArray.size ≤ sizeLine
    rw [List.size_toArray, List.length_reverse, Array.length_toList]
    exact hsz
  have hTs : s.TypeIs (.ref sl) "slice" := by obtain ⟨os, hos, hcs, _⟩ := hs; exact ⟨os, hos, hcs⟩
  unfold getItem
  try with_reducible refine wpAny_holding ?_
  first | refine wpAny_bind (wpAny_pure ?_) | skip
  refine wpAny_bind (wpAny_sequenceKey ht.typeIs (by decide) ?_)
  refine wpAny_bind (wpAny_callSpecial?_slot (name := Str.ofString "__getitem__") ht.typeIs PyProof.Rows.slot_tuple_getitem
    (wpAny_call_entry PyProof.Rows.slot_tuple_getitem ht.typeIs entry_tuple_getitem ?_ (args_tuple_getitem _ _)))
  refine wpAny_bind (m := Builtin.Tuple.tupleItemsOf (.ref t)) (tupleItemsOf_ ht (wpAny_bind (wpAny_typeOf hTs ?_)))
  rw [if_pos (by decide)]
  refine wpAny_bind (applied_rev hs pv ?_)
  show wpAny _ _ (if (((items.size : Int) - 1) == 0 && (-1 : Int) == 1 && items.size == items.size) = true then _ else _) _ _ s
  rw [if_neg (by rw [show ((-1 : Int) == 1) = false from rfl, Bool.and_false, Bool.false_and]; decide), pick_rev]
  first
    | exact wpAny_bind (m := Builtin.Tuple.tupleExact _) (wpAny_newObj_type (wpAny_pure ⟨_, rfl, wpAny_pure h⟩) fits)
    | exact wpAny_bind (wpAny_bind (m := Builtin.Tuple.tupleExact _) (wpAny_newObj_type (wpAny_pure (wpAny_pure ⟨_, rfl, wpAny_pure h⟩)) fits))
    | exact wpAny_bind (wpAny_bind (m := Builtin.Tuple.tupleExact _) (wpAny_newObj_type (wpAny_pure ⟨_, rfl, wpAny_pure h⟩) fits))
end
/-- t[::-1] -/
def tRevT (K : PySem.W.Frag) (te : TE) : TE := fun σ H Q => te σ H fun x H1 => ∃ a xs, x = .ref a ∧ SqT K H1 a xs ∧ ∀ p, H1 p = none → Q (.ref p) (upd H1 p (.tup xs.reverse))
theorem pe_revT {X : Cx} {e : Expr} {te : TE} {k : Nat} {p1 p2 p3 pos : Pos} (he : PE X e te) : PE X (.Subscript e (.Slice none none (some (.UnaryOp .USub (.Constant (.int 1) k p1) p2)) p3) pos) (tRevT X.K te) := by
  refine ⟨fun pins s σ H Q I h => Subscript_ (thn (he.run pins s σ H _ I h) fun v s1 ⟨x, H1, I1, r1, a, xs, ex, hx, q⟩ => ?_)⟩
  subst ex
  obtain rfl : v = Value.ref a := r1
  have step : PO X (some (.UnaryOp .USub (.Constant (.int 1) k p1) p2)) (tPart (tUn (rU fun i => .int (-i)) (tC (.int 1)))) := po_some (pe_un un_neg pe_int)
  refine wpAny_Slice (thn (po_none.run pins s1 σ H1 (fun o H2 => o = none ∧ H2 = H1) I1 ⟨rfl, rfl⟩) fun vl s2 ⟨l, H2, I2, pl, el, e2⟩ => ?_)
  subst el e2
  refine thn (po_none.run pins s2 σ H2 (fun o H3 => o = none ∧ H3 = H2) I2 ⟨rfl, rfl⟩) fun vu s3 ⟨u, H3, I3, pu, eu, e3⟩ => ?_
  subst eu e3
  refine thn (step.run pins s3 σ H3 (fun o H4 => o = some (-1) ∧ H4 = H3) I3 ⟨1, rfl, -1, rfl, rfl, rfl⟩) fun vs s4 ⟨o, H4, I4, pv, eo, e4⟩ => ?_
  subst eo e4
  obtain rfl : vl = Value.none := by cases pl; rfl
  obtain rfl : vu = Value.none := by cases pu; rfl
  have I5 : Inv X pins σ H4 { s4 with heap := s4.heap.push { cls := .type "slice", data := .fields #[.none, .none, vs] } } := I4.kept (t' := s4.toks) fun b ob q => Heap.get?_push_of_some _ q
  obtain ⟨its, r, ht, hz⟩ := I5.tuple hx
  have hlen := r.length
  show wpAny (model X.prog X.w) X.A (subscriptTail e (.Slice none none (some (.UnaryOp .USub (.Constant (.int 1) k p1) p2)) p3) (.ref a) (.ref s4.heap.objs.size)) (EP X pins σ Q) X.xe { s4 with heap := s4.heap.push { cls := .type "slice", data := .fields #[.none, .none, vs] } }
  refine tail_any (ops := [.ref a, .ref s4.heap.objs.size]) ht.typeIs PyProof.Rows.slot_tuple_getitem.lookup ?_ (by with_unfolding_all rfl)
  refine getItem_rev ht (Heap.IsSliceOf.new _ .none .none vs) pv ?_ (by rw [List.size_toArray, ← hlen]; exact hz)
  refine ⟨.ref _, _, I5.laid (t' := s4.toks) (o := .tup xs.reverse) (fun b ob q => Heap.get?_push_of_some _ q) (Nat.le_refl _) ?_, rfl, q _ (I5.hok.fresh (Nat.le_refl _))⟩
  exact ⟨by rw [List.length_reverse]; exact hz, _, r.reverse, IsTup.new _ _⟩
/-! ### defs of own classes, ready to be called -/
structure CalT (P : Program) (w : World) (K : PySem.W.Frag) (mg : Str → Option Value) (base : Heap) (CX : CXT) (k : Nat) (C : Addr) (op : Operator) (f : Addr) (fd : FuncData) (ps : List Str) (sp : Sp) : Prop extends CalB P w K mg base CX k f fd ps sp where
  ot : OpT K C f op "str"
structure CalRad (P : Program) (w : World) (K : PySem.W.Frag) (mg : Str → Option Value) (base : Heap) (CX : CXT) (k : Nat) (C f : Addr) (fd : FuncData) (ps : List Str) (sp : Sp) : Prop extends CalB P w K mg base CX k f fd ps sp where
  ra : RadC K C f
structure CalInp (P : Program) (w : World) (K : PySem.W.Frag) (mg : Str → Option Value) (base : Heap) (CX : CXT) (k : Nat) (C : Addr) (op : Operator) (f : Addr) (fd : FuncData) (ps : List Str) (sp : Sp) : Prop extends CalB P w K mg base CX k f fd ps sp where
  ip : InpC K C f op
structure CalInv (P : Program) (w : World) (K : PySem.W.Frag) (mg : Str → Option Value) (base : Heap) (CX : CXT) (k : Nat) (C f : Addr) (fd : FuncData) (ps : List Str) (sp : Sp) : Prop extends CalB P w K mg base CX k f fd ps sp where
  iv : InvC K C f
/-- one or the other reading of the same expression -/
def tEither (t1 t2 : TE) : TE := fun σ H Q => t1 σ H Q ∨ t2 σ H Q
theorem pe_either {X : Cx} {e : Expr} {t1 t2 : TE} (h1 : PE X e t1) (h2 : PE X e t2) : PE X e (tEither t1 t2) := ⟨fun pins s σ H Q I h => h.elim (h1.run pins s σ H Q I) (h2.run pins s σ H Q I)⟩
/-- what isinstance asks of an own class -/
structure IsC (K : PySem.W.Frag) (C : Addr) : Prop where
  ha : PySem.W.findIn K (.ref C) "__class__" = some (some (.builtin "object.__class__"))
  hn : PySem.W.specialIn K (.builtin "object.__class__") "__get__" = some (some (.builtin "getset_descriptor.__get__"))
  tk : PySem.W.takesIn K (.builtin "object.__class__") = some true
  hm : PySem.W.mroIn K C (.type "object") = some true
theorem ty_ins {K : PySem.W.Frag} {H : Hp} {a C dx : Addr} {fs : List (Str × V)} (e : H a = some (.ins C dx fs)) (cl : Cls K C) (i : IsC K C) : TyX K H (.ref a) (.ref C) := .base (.ins e cl i.ha i.hn i.tk i.hm)
theorem kit_self {K : PySem.W.Frag} {C : Addr} : PySem.W.kitOne K (.ref C) (.ref C) = some true := by
  unfold PySem.W.kitOne
  rw [if_pos (beq_iff_eq.mpr rfl)]
end El

set_option Elab.async false
set_option linter.all false
set_option maxRecDepth 100000
set_option maxHeartbeats 4000000
/-! Own words: comprehensions with two clauses, walk in walk. -/
namespace El
open PySem PySem.Spec PyProof.Rows L2
/-- the second clause's loop, from which Nx is reached -/
def Inner2 (J1 : It) (g1 : TG) (tt1 : TT) (te : TE) (σ2 : L2.St) (vs1 : List Nat) (D : Addr) (Nx : Hp → Prop) (H4 : Hp) : Prop :=
  ∃ W1 : Nat → Nat → Hp → Prop, (∃ m, W1 0 m H4) ∧ ∀ j k H, W1 j k H → (J1.stop j H ∧ Nx H) ∨ (J1.go j H ∧ ∃ Nx1 : Hp → Prop, (∀ H', Nx1 H' → ∃ k', k' < k ∧ W1 (j + 1) k' H') ∧ ∀ x H', J1.yld j H x H' → g1 x (wipe σ2 vs1) H' fun σ3 H5 => wipe σ3 vs1 = wipe σ2 vs1 ∧ tt1 σ3 H5 fun b H6 =>
    if b = true then te σ3 H6 fun y H7 => ∃ acc, H7 D = some (.lst acc) ∧ acc.length < sizeLine ∧ Nx1 (upd H7 D (.lst (acc ++ [y]))) else Nx1 H6)
theorem inner2_it {J1 : It} {n : Nat} {G : Hp → Prop} {Y : Nat → Hp → V → Hp → Prop} (w : Walk J1 n G Y) {g1 : TG} {tt1 : TT} {te : TE} {σ2 : L2.St} {vs1 : List Nat} {D : Addr} {Nx : Hp → Prop} {H4 : Hp} (Pv : Nat → Hp → Prop) (h0 : Pv 0 H4) (hG : ∀ j H, j ≤ n → Pv j H → G H)
    (hs : ∀ j x H H', j < n → Pv j H → Y j H x H' → g1 x (wipe σ2 vs1) H' fun σ3 H5 => wipe σ3 vs1 = wipe σ2 vs1 ∧ tt1 σ3 H5 fun b H6 =>
      if b = true then te σ3 H6 fun y H7 => ∃ acc, H7 D = some (.lst acc) ∧ acc.length < sizeLine ∧ Pv (j + 1) (upd H7 D (.lst (acc ++ [y]))) else Pv (j + 1) H6)
    (hd : ∀ H, Pv n H → Nx H) : Inner2 J1 g1 tt1 te σ2 vs1 D Nx H4 := by
  refine ⟨fun j k H => k = n - j ∧ j ≤ n ∧ Pv j H, ⟨n, by simp, Nat.zero_le _, h0⟩, ?_⟩
  rintro j k H ⟨rfl, hj, p⟩
  have q := hG j H hj p
  by_cases e : j < n
  · exact .inr ⟨w.goes j H e q, Pv (j + 1), fun H' p' => ⟨n - (j + 1), by omega, rfl, e, p'⟩, fun x H' y => hs j x H H' e p (w.yields j H x H' e q y)⟩
  · obtain rfl : j = n := by omega
    exact .inl ⟨w.stops H q, hd H p⟩
theorem lc2_it {J : It} {n : Nat} {G : Hp → Prop} {Y : Nat → Hp → V → Hp → Prop} (w : Walk J n G Y) {g : TG} {tt : TT} {wi1 : TI} {g1 : TG} {tt1 : TT} {te : TE} {vs vs1 : List Nat} {σ : L2.St} {H1 : Hp} {D : Addr} {Qd : Hp → Prop} (Pv : Nat → Hp → Prop) (h0 : Pv 0 (upd H1 D (.lst []))) (hG : ∀ i H, i ≤ n → Pv i H → G H)
    (hs : ∀ i x H H', i < n → Pv i H → Y i H x H' → g x (wipe σ vs) H' fun σ2 H2 => wipe σ2 vs = wipe σ vs ∧ tt σ2 H2 fun b H3 =>
      if b = true then wi1 σ2 H3 fun J1 H4 => Inner2 J1 g1 tt1 te σ2 vs1 D (Pv (i + 1)) H4 else Pv (i + 1) H3)
    (hd : ∀ H, Pv n H → Qd H) :
    ∃ W : Nat → Nat → Hp → Prop, (∃ m, W 0 m (upd H1 D (.lst []))) ∧ ∀ i m H, W i m H →
      (J.stop i H ∧ Qd H) ∨ (J.go i H ∧ ∃ Nx : Hp → Prop, (∀ H', Nx H' → ∃ m', m' < m ∧ W (i + 1) m' H') ∧ ∀ x H', J.yld i H x H' → g x (wipe σ vs) H' fun σ2 H2 => wipe σ2 vs = wipe σ vs ∧ tt σ2 H2 fun b H3 =>
        if b = true then wi1 σ2 H3 fun J1 H4 => Inner2 J1 g1 tt1 te σ2 vs1 D Nx H4 else Nx H3) := by
  refine ⟨fun i m H => m = n - i ∧ i ≤ n ∧ Pv i H, ⟨n, by simp, Nat.zero_le _, h0⟩, ?_⟩
  rintro i m H ⟨rfl, hi, p⟩
  have q := hG i H hi p
  by_cases e : i < n
  · exact .inr ⟨w.goes i H e q, Pv (i + 1), fun H' p' => ⟨n - (i + 1), by omega, rfl, e, p'⟩, fun x H' y => hs i x H H' e p (w.yields i H x H' e q y)⟩
  · obtain rfl : i = n := by omega
    exact .inl ⟨w.stops H q, hd H p⟩
/-- tuple(p), p a list or a tuple: a tuple of the same items stands behind it -/
theorem tupS {X : Cx} : CallR X (.type "tuple") (fun xs H Q => ∃ p ys, xs = [.ref p] ∧ (H p = some (.lst ys) ∨ H p = some (.tup ys)) ∧ ∀ H1 t, (∀ b o, H b = some o → H1 b = some o) → H1 t = some (.tup ys) → Q (.ref t) H1) := cwk call_tuple_of fun xs H Q q => by
  obtain ⟨p, ys, rfl, hp, q⟩ := q
  rcases hp with hp | hp
  · refine ⟨p, ys, rfl, .inl ⟨SqL.of hp, fun l nl => q _ l (fun b o hb => ?_) upd_same⟩⟩
    rw [upd_ne (fun e => by rw [e, nl] at hb; cases hb)]
    exact hb
  · exact ⟨p, ys, rfl, .inr ⟨SqT.of hp, q H p (fun _ _ h => h) hp⟩⟩
end El

set_option Elab.async false
set_option linter.all false
set_option maxRecDepth 100000
set_option maxHeartbeats 4000000
/-! Own words: methods, and classes with keyword-only parameters, called inside a try. -/
namespace El
open PySem PySem.Spec PyProof.Rows L2
section
variable {X : Cx} {CX : CXT} {k : Nat} {C f : Addr} {fd : FuncData} {ps : List Str} {sp : Sp} {E : L2.St → XK} {o e : Expr} {es : List Expr} {m : Str} {pos apos : Pos} {ta : TE} {t : TA} {pl : Sem Bool}
/-- o.m(e, ..), what it lets out being taken where it stands -/
def tMcS (C : Addr) (m : Str) (sp : Sp) (E : L2.St → XK) (ta : TE) (t : TA) : TE := fun σ H Q => ta σ H fun x H1 => ∃ a dx fs, x = .ref a ∧ H1 a = some (.ins C dx fs) ∧ fs.lookup m = none ∧ t σ H1 fun vs H2 => sp (x :: vs) H2 Q (E σ)
theorem pe_mcS (he : PE X o ta) (c : Cls X.K C) (hm : Meth X.K C m f) (F : FnOk X.prog X.w X.K X.mg X.base CX k f fd ps sp) (hr : Room k X.A) (hb : Binds X.K fd ps []) (hx : ∀ σ, PassesAt CX X σ (E σ)) (ha : PA X (e :: es) t)
    (hst : starEach (e :: es) X.env = (false, eval e X.env) :: starEach es X.env := by rfl) (hpl : (backTo pos (starEach es X.env)).any (·.1) = false := by rfl)
    (ht : eval (.Call (.Attribute o m apos) (e :: es) [] pos) X.env = (do
      let ov ← eval o X.env
      standAt apos.atName
      let (f, first) ← holding [ov] (getMethod ov m pl)
      callWith pos f first (backTo pos (starEach (e :: es) X.env)) (backToKw pos (keywordEach [] X.env))) := by rfl) :
    PE X (.Call (.Attribute o m apos) (e :: es) [] pos) (tMcS C m sp E ta t) := by
  refine ⟨fun pins s σ H Q I h => PySem.W.methodCall_KW (pl := pl) (thn (he.run pins s σ H _ I h) fun u s1 ⟨x, H1, I1, rx, a, dx, fs, ex, ea, l, q⟩ => ?_) ht⟩
  subst ex
  cases (show u = Value.ref a from rx)
  refine getmeth_ok I1 ea c hm l (PySem.W.callWith_K (first := [.ref a]) (h₀ := X.base) I.ok.mod.kin hm.kp (thn (ha.run pos pins s1 σ H1 _ I1 q) fun us s2 ⟨vs, H2, I2, r, q2⟩ => ⟨I2.kIn, ?_⟩) hst hpl)
  exact run_fnS (us := .ref a :: us) (vs := .ref a :: vs) F hr hb (hx σ) I2 (.cons rfl r) q2
end
section
variable {X : Cx} {CX : CXT} {k n : Nat} {C f e1 e2 : Addr} {fd : FuncData} {ps ks : List Str} {sp : Sp} {E : L2.St → XK} {x k1 k2 : Str} {p pos : Pos} {e : Expr} {es : List Expr} {kws : List Keyword} {t tk : TA} {g : List Value → List Value → List Value} {gV : List V → List V → List V}
/-- C(e, .., k = v, ..), what its __init__ lets out being taken where it stands -/
def tMkKS (C : Addr) (n m : Nat) (sp : Sp) (gV : List V → List V → List V) (E : L2.St → XK) (t tk : TA) : TE := fun σ H Q => t σ H fun vs H1 => tk σ H1 fun zs H2 => vs.length = n ∧ zs.length = m ∧ ∀ x dx, H2 x = none → H2 dx = none → dx ≠ x →
  sp (gV (.ref x :: vs) zs) (upd (upd H2 dx (.own x)) x (.ins C dx [])) (fun v H3 => v = .non ∧ Q (.ref x) H3) (E σ)
theorem run_mkKS {pins : List (Addr × Obj)} {σ : L2.St} {H : Hp} {s : Shared} {Q : VK} {us ws : List Value} {vs zs : List V} {E : XK} (M : Mk X.K C f) (F : FnOk X.prog X.w X.K X.mg X.base CX k f fd ps sp) (hr : Room (k + 1) X.A) (hb : KBn X.K fd ps (n + 1) ks g gV) (hx : PassesAt CX X σ E)
    (I : Inv X pins σ H s) (r : Vals vs us) (rz : Vals zs ws) (l1 : vs.length = n) (l2 : zs.length = ks.length)
    (h : ∀ x dx, H x = none → H dx = none → dx ≠ x → sp (gV (.ref x :: vs) zs) (upd (upd H dx (.own x)) x (.ins C dx [])) (fun v H2 => v = .non ∧ Q (.ref x) H2) E) :
    wpAny (model X.prog X.w) X.A (call (.ref C) us (ks.zip ws)) (EP X pins σ Q) X.xe s := by
  have fresh := fun n hn => I.hok.fresh (a := n) hn
  have q := h (s.heap.objs.size + 1) s.heap.objs.size (fresh _ (Nat.le_succ _)) (fresh _ (Nat.le_refl _)) (Nat.ne_of_lt (Nat.lt_succ_self _))
  have J := Inv.made (C := C) I
  have rr : Vals (V.ref (s.heap.objs.size + 1) :: vs) (Value.ref (s.heap.objs.size + 1) :: us) := .cons rfl r
  have len : (Value.ref (s.heap.objs.size + 1) :: us).length = n + 1 := by rw [← rr.length, List.length_cons, l1]
  have bt := hb.to _ (Value.ref (s.heap.objs.size + 1) :: us) ws J.kIn len (rz.length.symm.trans l2)
  refine wpAny_call (make_map (f := f) I.kIn M.makes M.init (beq_iff_eq.mp M.fn) (codeAny_mono (F.run _ X.stack _ _ ⟨Value.ref (s.heap.objs.size + 1) :: us, ks.zip ws⟩ _ _ _ E (hr.make C us (ks.zip ws)) (J.env0.make C us (ks.zip ws)) bt (hb.rel rr rz) q) fun r s' hs => ?_))
  match r, hs with
  | .error e, hs => exact hx pins _ _ e s' J hs
  | .ok (.ret u), hs =>
    obtain ⟨v, H', J', rv, ev, q'⟩ := J.after hs
    subst ev
    exact ⟨rv, V.ref (s.heap.objs.size + 1), H', J', rfl, q'⟩
  | .ok .next, hs => exact False.elim hs
  | .ok .brk, hs => exact False.elim hs
  | .ok .cont, hs => exact False.elim hs
theorem pe_mkKS (M : Mk X.K C f) (F : FnOk X.prog X.w X.K X.mg X.base CX k f fd ps sp) (hr : Room (k + 1) X.A) (hg : Gl X x) (hm : X.mg x = some (.ref C)) (hb : KBn X.K fd ps (n + 1) ks g gV) (hx : ∀ σ, PassesAt CX X σ (E σ)) (ha : PA X (e :: es) t) (hkw : PK X kws tk)
    (hall : (backToKw pos (keywordEach kws X.env)).all (·.1.isSome) = true := by rfl) (hks : (backToKw pos (keywordEach kws X.env)).filterMap (·.1) = ks := by rfl) (hdb : (x == ("__debug__" : Str)) = false := by decide)
    (he : starEach (e :: es) X.env = (false, eval e X.env) :: starEach es X.env := by rfl) (hpl : ((backTo pos (starEach (e :: es) X.env)).any (·.1) || (backToKw pos (keywordEach kws X.env)).any (·.1.isNone)) = false := by rfl) :
    PE X (.Call (.Name x p) (e :: es) kws pos) (tMkKS C n ks.length sp gV E t tk) := by
  refine ⟨fun pins s σ H Q I h => wpAny_Call_Name_kw (ld_glob I hg hm (PySem.W.callWith_KW (h₀ := X.base) I.ok.mod.kin M.kp hall (thn (ha.run pos pins s σ H _ I h) fun us s1 ⟨vs, H1, I1, r, q⟩ => ?_) hpl he) hdb)⟩
  refine thn (hkw.run pos pins s1 σ H1 _ I1 q) fun ws s2 ⟨zs, H2, I2, rz, l1, l2, q2⟩ => ⟨I2.kIn, ?_⟩
  rw [hks]
  exact run_mkKS M F hr hb (hx σ) I2 r rz l1 l2 q2
theorem pe_mkAllS (c : CalK X.prog X.w X.K X.mg X.base CX k x C f fd ps (n + 1) k1 k2 e1 e2 sp) (hr : Room (k + 1) X.A) (hg : Gl X x) (hx : ∀ σ, PassesAt CX X σ (E σ)) (ha : PA X (e :: es) t) (hkw : PK X kws tk) (hdb : (x == ("__debug__" : Str)) = false := by decide)
    (he : starEach (e :: es) X.env = (false, eval e X.env) :: starEach es X.env := by rfl) (hpl : ((backTo pos (starEach (e :: es) X.env)).any (·.1) || (backToKw pos (keywordEach kws X.env)).any (·.1.isNone)) = false := by rfl) (hall : (backToKw pos (keywordEach kws X.env)).all (·.1.isSome) = true := by rfl) (hks : (backToKw pos (keywordEach kws X.env)).filterMap (·.1) = [k1, k2] := by rfl) :
    PE X (.Call (.Name x p) (e :: es) kws pos) (tMkKS C n 2 sp (fun vs zs => vs ++ zs) E t tk) := by
  obtain ⟨g, hb⟩ := c.b.all
  exact pe_mkKS c.mkc c.G hr hg c.m hb hx ha hkw hall hks hdb he hpl
end
end El

set_option Elab.async false
set_option linter.all false
set_option maxRecDepth 100000
set_option maxHeartbeats 4000000
/-! Own words: list.remove of a text. -/
namespace El
open PySem PySem.Spec PyProof.Rows L2
theorem pi_listK {X : Cx} {tg l : Expr} {tl : TE} (K : PySem.W.Frag) (hl : PE X l tl) (h : X.K = K := by rfl) : PI X tg l (iList K tl) := h ▸ pi_list hl
theorem pi_tupK {X : Cx} {tg l : Expr} {tl : TE} (K : PySem.W.Frag) (hl : PE X l tl) (h : X.K = K := by rfl) : PI X tg l (iTup K tl) := h ▸ pi_tup hl
theorem vals_at : ∀ {zs : List Str} {us : List Value}, Vals (zs.map V.str) us → ∀ (i : Nat) (h : i < us.length), ∃ t, ∃ z, zs[i]? = some z ∧ us[i] = .str z t
  | [], _, .nil, i, h => absurd h (Nat.not_lt_zero _)
  | z :: zs, _, .cons r q, i, h => by
    obtain ⟨t, rfl⟩ := r
    cases i with
    | zero => exact ⟨t, z, rfl, rfl⟩
    | succ i => exact vals_at q i (Nat.lt_of_succ_lt_succ h)
theorem erase_strs : ∀ (zs : List Str) (j : Nat), (zs.map V.str).eraseIdx j = (zs.eraseIdx j).map V.str
  | [], _ => rfl
  | _ :: _, 0 => rfl
  | z :: zs, j + 1 => congrArg (V.str z :: ·) (erase_strs zs j)
/-- xs.remove(z), xs a list of texts that has z, first at j -/
def rRemS : V → List V → Hp → VK → Prop := fun x vs H Q => ∃ (l : Addr) (zs : List Str) (z : Str) (j : Nat), x = .ref l ∧ vs = [.str z] ∧ H l = some (.lst (zs.map V.str)) ∧ zs[j]? = some z ∧ (∀ m : Nat, m < j → zs[m]? ≠ some z) ∧ Q .non (upd H l (.lst ((zs.eraseIdx j).map V.str)))
theorem mt_removeS {X : Cx} : MtM X "list.remove" rRemS := by
  intro pins s σ H x vs v us Q I rx rvs h
  obtain ⟨l, zs, z, j, rfl, rfl, hl, hj, no, q⟩ := h
  cases rx
  obtain ⟨u, rfl, t, rfl⟩ := rvs.one
  obtain ⟨sz, its, n, r, len, e⟩ := I.lstM hl
  have lens : its.length = zs.length := by rw [← r.length, List.length_map]
  have jz : j < zs.length := (List.getElem?_eq_some_iff.mp hj).1
  have eqs : ∀ (i : Nat) (h : i < its.length), MeetsSeq.EqGives its[i] (.str z t) (decide (zs[i]? = some z)) := fun i h => by
    obtain ⟨t2, y, e1, e2⟩ := vals_at r i h
    rw [e2, e1]
    have k : MeetsSeq.EqGives (.str y t2) (.str z t) (decide (y = z)) := fun _ _ _ _ _ _ h => wpAny_eqBool_str h
    have e3 : decide (y = z) = decide (some y = some z) := by
      rw [Bool.eq_iff_iff, decide_eq_true_iff, decide_eq_true_iff, Option.some.injEq]
    rw [e3] at k
    exact k
  let f : Value → Bool := fun y => match y with
    | .str y _ => decide (y = z)
    | _ => false
  have fe : ∀ (i : Nat) (h : i < its.length), f its[i] = decide (zs[i]? = some z) := fun i h => by
    obtain ⟨t2, y, e1, e2⟩ := vals_at r i h
    rw [e2, e1]
    show decide (y = z) = decide (some y = some z)
    rw [Bool.eq_iff_iff, decide_eq_true_iff, decide_eq_true_iff, Option.some.injEq]
  refine call_meets PySem.F.slot_list_remove ⟨_, e, rfl⟩ PySem.F.entry_list_remove (PySem.F.args_list_remove_2 _ _)
    (MeetsSeq.list_remove l its.toArray n (.str z t) f (fun y hy => ?_) j (by rw [List.size_toArray]; omega) ?_ (fun m hm mj => ?_) (by rw [List.size_toArray]; rw [List.length_map] at sz len; omega)) ⟨e, .non, _, I.lset (its' := its.eraseIdx j) (t' := s.toks) hl e ?_ (erase_strs zs j ▸ r.eraseIdx j) ?_, rfl, q⟩
  · obtain ⟨i, hi, rfl⟩ := List.getElem_of_mem (show y ∈ its by simpa using hy)
    rw [fe i hi]
    exact eqs i hi
  · have z1 := fe j (by omega)
    simpa [hj] using z1
  · have z1 := fe m (by omega)
    simpa [no m mj] using z1
  · show its.toArray.eraseIdxIfInBounds j = (its.eraseIdx j).toArray
    rw [List.eraseIdxIfInBounds_toArray]
  · have := len_erase zs j
    rw [List.length_map] at *
    omega
end El

set_option Elab.async false
set_option linter.all false
set_option maxRecDepth 100000
set_option maxHeartbeats 4000000
/-! Own words: iterating an own class whose `__iter__` returns iter(..) of a dict's values; an own `__setitem__`; own classes with a star parameter. -/
namespace El
open PySem PySem.Spec PyProof.Rows L2 StX
/-! ### d.values() and iter(..) of it -/
/-- at v the view of the values of the dict at d -/
def VvO (d v : Addr) : HO := .ext fun h => h.IsValuesView v d
def vvObj (d : Addr) : Obj := { cls := .type "dict_values", data := .fields #[.ref d] }
theorem vvO_ok {P : Program} {w : World} {H : Hp} {h : Heap} {d v : Addr} (e : h.get? v = some (vvObj d)) : ObjOk P w H h v (VvO d v) := ⟨⟨_, e, rfl, rfl⟩, ⟨_, e⟩, fun _ _ ⟨o, h1, h2, h3⟩ k => ⟨o, k _ h1, h2, h3⟩⟩
/-- e.values(), e a dict that no one changes now -/
def tVals (te : TE) : TE := fun σ H Q => te σ H fun x H1 => ∃ d o kvs, x = .ref d ∧ H1 d = some (.frz o (.dK kvs)) ∧ ∀ v, H1 v = none → Q (.ref v) (upd H1 v (VvO d v))
section
variable {X : Cx}
theorem pe_vals {e : Expr} {te : TE} {apos cpos : Pos} (he : PE X e te) (hbase : attributeBase e "values" X.env (eval e X.env) = eval e X.env := by rfl) (hline : (apos.endLine == cpos.line) = true := by rfl) :
    PE X (.Call (.Attribute e "values" apos) [] [] cpos) (tVals te) := by
  refine ⟨fun pins s σ H Q I h => wpAny_Call_method (T := "dict") (id := "dict.values") hbase rfl hline F.plainAttrs_dict F.slot_dict_values F.type_dict_values (thn (he.run pins s σ H _ I h) fun u s1 ⟨x, H1, I1, rx, q⟩ => ?_)⟩
  obtain ⟨d, o, kvs, ex, hd, q⟩ := q
  subst ex
  cases (show u = Value.ref d from rx)
  obtain ⟨hs, _, _, _, _, vs, _, _, _, hm⟩ := I1.frzK hd
  refine ⟨hm.dictOf.typeIs, hm.dictOf.mapOf.noDict, ?_⟩
  have stay : ∀ b ob, s1.heap.get? b = some ob → (s1.heap.push (vvObj d)).get? b = some ob := fun b ob z => Heap.get?_push_of_some _ z
  have fin : EP X pins σ Q (.ref s1.heap.objs.size) { s1 with heap := s1.heap.push (vvObj d) } := ⟨.ref s1.heap.objs.size, _, I1.laid (t' := s1.toks) stay (Nat.le_refl _) (vvO_ok (Heap.get?_push_size _ rfl)), rfl, q _ (I1.hok.fresh (Nat.le_refl _))⟩
  show wpAny _ _ (callWith cpos (.builtin "dict.values") [.ref d] [] []) _ X.xe s1
  exact method_meetsIn F.slot_dict_values F.entry_dict_values rfl (PySem.evalArgs_none ⟨rfl, hm.dictOf.typeIs, F.args_dict_values_1 _, _, meets_dict_values (mixKind X.prog X.w) d hs, ⟨vs, hm.dictOf⟩, fin⟩)
end
def vitObj (d : Addr) (n ep : Nat) : Obj := { cls := .type "dict_valueiterator", data := .fields #[.ref d, .int 0 0, .int n 0, .int ep 0] }
/-- at it the iterator of the values of the dict at d, at its beginning; o is the dict's object -/
def VitO (d : Addr) (o : Obj) (n : Nat) (it : Addr) : HO := .ext fun h => ∃ es ep, o.data = .dict es ep ∧ h.IsValIter it d 0 n ep
theorem vitO_ok {P : Program} {w : World} {H : Hp} {h : Heap} {d it : Addr} {o : Obj} {n ep : Nat} {es : Array DictEntry} (ho : o.data = .dict es ep) (e : h.get? it = some (vitObj d n ep)) : ObjOk P w H h it (VitO d o n it) :=
  ⟨⟨es, ep, ho, _, e, rfl, rfl⟩, ⟨_, e⟩, fun _ _ ⟨es, ep, ho, ob, h1, h2⟩ k => ⟨es, ep, ho, ob, k _ h1, h2⟩⟩
def rIterV (n : Nat) : List V → Hp → VK → Prop := fun xs H Q => ∃ (v d : Addr) (o : Obj) (kvs : List (Key × V)), xs = [.ref v] ∧ H v = some (VvO d v) ∧ H d = some (.frz o (.dK kvs)) ∧ ∀ it, H it = none → n ≤ it → Q (.ref it) (upd H it (VitO d o kvs.length it))
theorem call_iterV {X : Cx} : CallR X (.builtin "iter") (rIterV X.s_0.heap.objs.size) := by
  intro pins s σ H xs us Q I r h
  obtain ⟨v, d, o, kvs, rfl, hv, hd, q⟩ := h
  obtain rfl := Vals.ref1 r
  obtain ⟨hs, hgd, hx, es, ep, vs, hdt, hsz, kv, hm⟩ := I.frzK hd
  have view : s.heap.IsValuesView v d := (I.hok v _ hv).1
  have hl : vs.length = kvs.length := (Paired.length kv).symm
  refine Calls.call_function_entry (by decide +kernel) (by decide +kernel) PySem.W.kdk_entry_iter (PySem.W.kdk_args_iter _) ?_
  unfold Builtin.«iter»
  refine wpAny_bind (m := someArgs "iter" 1 2 _) (wpAny_of_eq (a := [Value.ref v]) (by first | rfl | kernel_rfl!) ?_)
  refine wpAny_bind (wpAny_pyIter_values (d := d) (knd := mixKind X.prog X.w) view hm (wpAny_pure ⟨_, rfl, ?_⟩))
  rw [hl]
  exact ⟨.ref s.heap.objs.size, _, I.laid (t' := s.toks) (h' := s.heap.push (vitObj d kvs.length ep)) (fun b u e => Heap.get?_push_of_some _ e) (Nat.le_refl _) (vitO_ok hdt (Heap.get?_push_size _ rfl)), rfl, q _ (I.hok.fresh (Nat.le_refl _)) I.sz⟩
theorem iterVK {X : Cx} (n : Nat) (hn : X.s_0.heap.objs.size = n := by rfl) : CallR X (.builtin "iter") (rIterV n) := hn ▸ call_iterV
/-! ### for x in a, a of the class at C -/
/-- `__iter__` gives a tuple's iterator; no word of how many objects there were -/
def iOwnTn (K : PySem.W.Frag) (C : Addr) (sp : Nat → Sp) (E : XK) (te : TE) : TI := fun σ H R => te σ H fun x H1 => ∃ a dx fs, x = .ref a ∧ H1 a = some (.ins C dx fs) ∧ ∀ m, sp m [.ref a] H1 (fun v H2 => ∃ t it, v = .ref it ∧ H2 it = some (TitO t it) ∧ m ≤ it ∧ R (Itt K t) (ItX.dropH H2 it)) E
/-- `__iter__` gives the iterator of a dict's values -/
def iOwnVn (C : Addr) (sp : Nat → Sp) (E : XK) (te : TE) : TI := fun σ H R => te σ H fun x H1 => ∃ a dx fs, x = .ref a ∧ H1 a = some (.ins C dx fs) ∧ ∀ m, sp m [.ref a] H1 (fun v H2 => ∃ d o kvs it, v = .ref it ∧ H2 d = some (.frz o (.dK kvs)) ∧ d ≠ it ∧ H2 it = some (VitO d o kvs.length it) ∧ m ≤ it ∧ R (Itd d o kvs) (ItX.dropH H2 it)) E
section
variable {X : Cx} {CX : CXT} {k : Nat} {C f : Addr} {sp : Nat → Sp} {E : XK} {tg e : Expr} {te : TE}
theorem pi_ownTn (K : PySem.W.Frag) (c : OitC X.K C f) (F : FnS X.prog X.w X.K X.mg X.base CX k f sp) (hr : Room k X.A) (hx : Passes CX X E) (he : PE X e te) (hK : X.K = K := by rfl) : PI X tg e (iOwnTn K C sp E te) := by
  subst hK
  refine ⟨fun pins s σ H R I h => thn (he.run pins s σ H _ I h) fun v s1 ⟨x, H1, I1, r1, a, dx, fs, ex, ea, q⟩ => ?_⟩
  subst ex
  obtain rfl : v = Value.ref a := r1
  obtain ⟨m, fr⟩ := I1.fr
  obtain ⟨mA, O, _⟩ := ins_get I1.hok ea
  obtain ⟨od, J, _⟩ := O.look
  refine PySem.W.owit_iter fr I1.ok.mod.kin J c.at_ c.fn (wpAny_call (codeAny_mono (F X.A X.stack s1 H1 [.ref a] [.ref a] _ E hr I1.env0 (.cons rfl .nil) (q _)) fun r s' hq => ?_))
  match r, hq with
  | .error e, hq => exact hx pins σ H1 s1 e s' I1 hq
  | .ok (.ret u), hq =>
    obtain ⟨w', H2, I2, rw', t, it, rfl, hi, hn, hR⟩ := I1.after hq
    obtain rfl : u = Value.ref it := rw'
    have eo := titO_get I2 hi
    have hi' := hi
    unfold TitO at hi'
    have LT : PySem.W.Looks (model X.prog X.w) s'.heap (typeOf (.ref it)) (.type "tuple_iterator") := (PySem.W.Looks.ld (part := none) eo).andThen .now
    have LN : PySem.W.Looks (model X.prog X.w) s'.heap (specialOf (.ref it) (Str.ofString "__next__")) (some (.builtin "tuple_iterator.__next__")) := LT.andThen (PySem.W.Looks.of_pure slot_tupleiter_next.lookup)
    refine LN.here ⟨it, [it], _, _, ItX.dropH H2 it, rfl, ItX.inv_drop I2 hi', turn_tuple t it, ⟨_, eo, rfl, rfl⟩, fun b hb => ?_, hR⟩
    rw [show b = it by simpa using hb]
    exact ItX.inv_fp I2 hi (Nat.le_trans I1.sz hn)
  | .ok .next, hq => exact False.elim hq
  | .ok .brk, hq => exact False.elim hq
  | .ok .cont, hq => exact False.elim hq
theorem pi_ownVn (c : OitC X.K C f) (F : FnS X.prog X.w X.K X.mg X.base CX k f sp) (hr : Room k X.A) (hx : Passes CX X E) (he : PE X e te) : PI X tg e (iOwnVn C sp E te) := by
  refine ⟨fun pins s σ H R I h => thn (he.run pins s σ H _ I h) fun v s1 ⟨x, H1, I1, r1, a, dx, fs, ex, ea, q⟩ => ?_⟩
  subst ex
  obtain rfl : v = Value.ref a := r1
  obtain ⟨m, fr⟩ := I1.fr
  obtain ⟨mA, O, _⟩ := ins_get I1.hok ea
  obtain ⟨od, J, _⟩ := O.look
  refine PySem.W.owit_iter fr I1.ok.mod.kin J c.at_ c.fn (wpAny_call (codeAny_mono (F X.A X.stack s1 H1 [.ref a] [.ref a] _ E hr I1.env0 (.cons rfl .nil) (q _)) fun r s' hq => ?_))
  match r, hq with
  | .error e, hq => exact hx pins σ H1 s1 e s' I1 hq
  | .ok (.ret u), hq =>
    obtain ⟨w', H2, I2, rw', d, o, kvs, it, rfl, hd, hne, hi, hn, hR⟩ := I1.after hq
    obtain rfl : u = Value.ref it := rw'
    obtain ⟨es, ep, ho, st⟩ : ∃ es ep, o.data = .dict es ep ∧ s'.heap.IsValIter it d 0 kvs.length ep := (I2.hok it _ hi).1
    have hi' := hi
    unfold VitO at hi'
    have LT : PySem.W.Looks (model X.prog X.w) s'.heap (typeOf (.ref it)) (.type "dict_valueiterator") := by
      obtain ⟨ob, e1, e2, _⟩ := st
      rw [← e2]
      exact (PySem.W.Looks.ld (part := none) e1).andThen .now
    have LN : PySem.W.Looks (model X.prog X.w) s'.heap (specialOf (.ref it) (Str.ofString "__next__")) (some (.builtin "dict_valueiterator.__next__")) := LT.andThen (PySem.W.Looks.of_pure PySem.F.slot_dict_valueiterator_next.lookup)
    refine LN.here ⟨it, [it], _, _, ItX.dropH H2 it, rfl, ItX.inv_drop I2 hi', turn_vals it ho, st, fun b hb => ?_, hR⟩
    rw [show b = it by simpa using hb]
    exact ItX.inv_fp I2 hi (Nat.le_trans I1.sz hn)
  | .ok .next, hq => exact False.elim hq
  | .ok .brk, hq => exact False.elim hq
  | .ok .cont, hq => exact False.elim hq
end
/-! ### a[i] = v, a of the class at C -/
structure SetC (K : PySem.W.Frag) (C f : Addr) : Prop where
  at_ : PySem.W.findIn K (.ref C) "__setitem__" = some (some (.ref f))
  fn : PySem.W.isFn K (.ref f) = true
  sq : PySem.W.noSeq K C = true
def rSetO (C : Addr) (sp : Sp) (E : XK) : TSet := fun o i v H Q => ∃ a dx fs, o = .ref a ∧ H a = some (.ins C dx fs) ∧ sp [.ref a, i, v] H (fun _ H' => Q H') E
theorem set_own {X : Cx} {CX : CXT} {k : Nat} {C f : Addr} {fd : FuncData} {ps : List Str} {sp : Sp} {E : XK} (c : SetC X.K C f) (F : FnOk X.prog X.w X.K X.mg X.base CX k f fd ps sp) (hr : Room k X.A) (hb : Binds X.K fd ps []) (hx : Passes CX X E) : PSet X (rSetO C sp E) := by
  intro pins s σ H o i v ov iv u Q I ro ri rv h
  obtain ⟨a, dx, fs, rfl, ea, q⟩ := h
  obtain rfl : ov = Value.ref a := ro
  obtain ⟨m, fr⟩ := I.fr
  obtain ⟨mA, O, _⟩ := ins_get I.hok ea
  obtain ⟨od, J, _⟩ := O.look
  refine PySem.W.ksp_setItem fr I.ok.mod.kin J c.sq c.at_ c.fn ?_
  have hl : ([Value.ref a, iv, u] ++ []).length = ps.length := F.len _ _ _ _ q
  have bt := hb s [.ref a, iv, u] I.kIn hl
  rw [List.append_nil] at bt
  refine wpAny_call (codeAny_mono (F.run X.A X.stack s H ⟨[.ref a, iv, u], []⟩ [.ref a, iv, u] [.ref a, i, v] _ E hr I.env0 bt (.cons rfl (.cons ri (.cons rv .nil))) q) fun r s' hq => ?_)
  match r, hq with
  | .error e, hq => exact hx pins σ H s e s' I hq
  | .ok (.ret u), hq =>
    obtain ⟨w', H2, I2, _, q2⟩ := I.after hq
    exact ⟨H2, I2, q2⟩
  | .ok .next, hq => exact False.elim hq
  | .ok .brk, hq => exact False.elim hq
  | .ok .cont, hq => exact False.elim hq
structure CalSet (P : Program) (w : World) (K : PySem.W.Frag) (mg : Str → Option Value) (base : Heap) (CX : CXT) (k : Nat) (C f : Addr) (fd : FuncData) (ps : List Str) (sp : Sp) : Prop extends CalB P w K mg base CX k f fd ps sp where
  se : SetC K C f
/-! ### star parameters -/
/-- what a def with the parameters before and a star parameter promises: the star's tuple is new -/
def spV (n : Nat) (sp : Sp) : Sp := fun vs H Q E => ∃ ws rest, vs = ws ++ rest ∧ ws.length = n ∧ rest.length ≤ sizeLine ∧ ∀ p, H p = none → sp (ws ++ [V.ref p]) (upd H p (.tup rest)) Q E
section
variable {P : Program} {w : World} {K : PySem.W.Frag} {mg : Str → Option Value} {base : Heap} {k : Nat} {f : Addr} {x qual : Str} {st : Stmt} {fd : FuncData} {N ps : List Str} {pv : Str} {sp : Sp}
theorem Fun.okV0 (F : Fun K x qual st f fd) (S : FnScope N (ps ++ [pv]) (defScope st))
    (hb : ∀ (kV doc pm : Value) (an : Option Addr) (cdv ct : Value) (us rest : List Value), us.length = ps.length → bindArgs (PySem.W.fnOf x qual (defArgs st) (defBody st) (defScope st) .none kV doc pm an cdv ct) ⟨us ++ rest, []⟩ = (newTuple rest >>= fun t => pure (ps.zip us ++ [(pv, t)])))
    (body : ∀ (cdv : Value) (A : Around) (outer : List Env) (s : Shared) (H : Hp) (vs : List V) (Q : VK) (E : XK), Room k (A.deeper (envOfC qual (defScope st) s.heap.objs.size f cdv)) → sp vs H Q E →
      ∃ t, PSs (cxOf CX0 P w K mg base N qual (defScope st) f cdv A outer s H E).nox (defBody st) t ∧ t { nx := fun _ H' => Q .non H', rt := Q } (start N vs) H) : FnR P w K mg base CX0 (k + 1) f (spV ps.length sp) := by
  obtain ⟨oc, od, kV, doc, pm, an, cdv, ct, osl, rfl, lk, hcd⟩ := F.ex
  exact fn_star lk hcd S cxUp_none (hb kV doc pm an cdv ct) fun A outer s H vs Q E hr hsp => (body cdv A outer s H vs Q E hr hsp).imp fun t z => ⟨z.1.nox, z.2⟩
theorem Fun.okVX (F : Fun K x qual st f fd) (S : FnScope N (ps ++ [pv]) (defScope st))
    (hb : ∀ (kV doc pm : Value) (an : Option Addr) (cdv ct : Value) (us rest : List Value), us.length = ps.length → bindArgs (PySem.W.fnOf x qual (defArgs st) (defBody st) (defScope st) .none kV doc pm an cdv ct) ⟨us ++ rest, []⟩ = (newTuple rest >>= fun t => pure (ps.zip us ++ [(pv, t)])))
    (body : ∀ (cdv : Value) (A : Around) (outer : List Env) (s : Shared) (H : Hp) (vs : List V) (Q : VK) (E : XK), Room k (A.deeper (envOfC qual (defScope st) s.heap.objs.size f cdv)) → sp vs H Q E →
      ∃ t, PSs (cxOf (L2.CX P w) P w K mg base N qual (defScope st) f cdv A outer s H E) (defBody st) t ∧ t { nx := fun _ H' => Q .non H', rt := Q } (start N vs) H) : FnR P w K mg base (L2.CX P w) (k + 1) f (spV ps.length sp) := by
  obtain ⟨oc, od, kV, doc, pm, an, cdv, ct, osl, rfl, lk, hcd⟩ := F.ex
  exact fn_star lk hcd S cxUp (hb kV doc pm an cdv ct) fun A outer s H vs Q E hr hsp => body cdv A outer s H vs Q E hr hsp
end
theorem FnR.up {P : Program} {w : World} {K : PySem.W.Frag} {mg : Str → Option Value} {base : Heap} {CX : CXT} {j k : Nat} {f : Addr} {sp : Sp} (F : FnR P w K mg base CX j f sp) (h : j ≤ k) : FnR P w K mg base CX k f sp := fun A outer s H us vs Q E hr => F A outer s H us vs Q E (hr.mono h)
/-- a class whose `__init__` has a star parameter -/
structure CalIV (P : Program) (w : World) (K : PySem.W.Frag) (mg : Str → Option Value) (base : Heap) (CX : CXT) (k : Nat) (x : Str) (C f : Addr) (n : Nat) (sp : Sp) : Prop where
  G : FnR P w K mg base CX k f (spV n sp)
  mkc : Mk K C f
  m : mg x = some (.ref C)
/-- a def of the module with a star parameter -/
structure CalV (P : Program) (w : World) (K : PySem.W.Frag) (mg : Str → Option Value) (base : Heap) (CX : CXT) (k : Nat) (x : Str) (f : Addr) (n : Nat) (sp : Sp) : Prop where
  G : FnR P w K mg base CX k f (spV n sp)
  kp : PySem.W.keepIn K (.ref f) = true
  m : mg x = some (.ref f)
section
variable {X : Cx} {CX : CXT} {k : Nat} {C f : Addr} {sp : Sp} {E : XK} {x : Str} {e : Expr} {es : List Expr} {t : TA} {p pos : Pos}
/-- C(e, .., *y) -/
theorem pe_makeRS (M : Mk X.K C f) (F : FnR X.prog X.w X.K X.mg X.base CX k f sp) (hr : Room (k + 1) X.A) (hg : Gl X x) (hm : X.mg x = some (.ref C)) (hx : Passes CX X E) (ha : PA X (e :: es) t) (hdb : (x == ("__debug__" : Str)) = false := by decide)
    (he : starEach (e :: es) X.env = (false, eval e X.env) :: starEach es X.env := by rfl) (hst : (backTo pos (starEach es X.env)).any (·.1) = true := by rfl) : PE X (.Call (.Name x p) (e :: es) [] pos) (StX.tMakeR C sp E t) := by
  refine ⟨fun pins s σ H Q I h => wpAny_Call_Name_kw (ld_glob I hg hm ?_ hdb)⟩
  exact PySem.W.callWith_S2 (h₀ := X.base) I.ok.mod.kin M.kp (thn (ha.run pos pins s σ H _ I h) fun us s1 ⟨vs, H1, I1, r, q⟩ => ⟨I1.kIn, StX.run_makeR M F hr hx I1 r q⟩) he hst
/-- f(e, ..), f a def with a star parameter -/
theorem pe_callR (F : FnR X.prog X.w X.K X.mg X.base CX k f sp) (hr : Room k X.A) (hk : PySem.W.keepIn X.K (.ref f) = true) (hg : Gl X x) (hm : X.mg x = some (.ref f)) (hx : Passes CX X E) (ha : PA X (e :: es) t) (hd : (x == ("__debug__" : Str)) = false := by decide)
    (he : starEach (e :: es) X.env = (false, eval e X.env) :: starEach es X.env := by rfl) (hpl : (backTo pos (starEach es X.env)).any (·.1) = false := by rfl) : PE X (.Call (.Name x p) (e :: es) [] pos) (fun σ H Q => t σ H fun vs H1 => sp vs H1 Q E) := by
  refine ⟨fun pins s σ H Q I h => wpAny_Call_Name_kw (ld_glob I hg hm ?_ hd)⟩
  exact PySem.W.callWith_K (h₀ := X.base) I.ok.mod.kin hk (thn (ha.run pos pins s σ H _ I h) fun us s1 ⟨vs, H1, I1, r, q⟩ => ⟨I1.kIn, wpAny_call (run_fnR F hr hx I1 r q)⟩) he hpl
end
/-- three parameters ahead of a star parameter -/
theorem bind_star3 {B : List Value → Sem (List (Str × Value))} {p1 p2 p3 pv : Str} (h0 : ∀ a b c, B [a, b, c] = (newTuple [] >>= fun t => pure [(p1, a), (p2, b), (p3, c), (pv, t)])) (h1 : ∀ a b c r rs, B (a :: b :: c :: r :: rs) = (newTuple (r :: rs) >>= fun t => pure [(p1, a), (p2, b), (p3, c), (pv, t)])) :
    ∀ us rest : List Value, us.length = [p1, p2, p3].length → B (us ++ rest) = (newTuple rest >>= fun t => pure ([p1, p2, p3].zip us ++ [(pv, t)]))
  | [a, b, c], [], _ => h0 a b c
  | [a, b, c], r :: rs, _ => h1 a b c r rs
end El

set_option Elab.async false
set_option linter.all false
set_option maxRecDepth 100000
set_option maxHeartbeats 4000000
/-! Own words: rows of ints and texts (keys of a dict) compared, looked for and sorted; setdefault and del for dicts by such rows. -/
namespace El
open PySem PySem.Spec PyProof.Rows L2
instance decKy (k : List Key) (ks : List (List Key)) : Decidable (k ∈ ks) := decidable_of_iff ((ks.any fun j => decide (j = k)) = true) (by rw [List.any_eq_true]; exact ⟨fun ⟨j, h, e⟩ => by rw [← of_decide_eq_true e]; exact h, fun h => ⟨k, h, decide_eq_true rfl⟩⟩)
section
variable {X : Cx}
/-! ### rows of ints and texts as data -/
def kD : Key → PyData
  | .inl i => .int i
  | .inr z => .str z
def ksD (k : List Key) : PyData := .tuple (k.map kD)
theorem kD_eqv : ∀ a b : Key, PyData.eqv (kD a) (kD b) = decide (a = b)
  | .inl i, .inl j => by
    simp only [kD, PyData.eqv]
    rw [Bool.eq_iff_iff, beq_iff_eq, decide_eq_true_iff, Sum.inl.injEq]
  | .inl i, .inr z => by simp [kD, PyData.eqv]
  | .inr z, .inl i => by simp [kD, PyData.eqv]
  | .inr z, .inr y => by
    simp only [kD, PyData.eqv]
    rw [Bool.eq_iff_iff, beq_iff_eq, decide_eq_true_iff, Sum.inr.injEq]
theorem kDs_eqv : ∀ a b : List Key, PyData.eqvAll (a.map kD) (b.map kD) = decide (a = b)
  | [], [] => by simp [PyData.eqvAll]
  | [], _ :: _ => by simp [PyData.eqvAll]
  | _ :: _, [] => by simp [PyData.eqvAll]
  | x :: a, y :: b => by
    simp only [List.map_cons, PyData.eqvAll]
    rw [kD_eqv, kDs_eqv a b, Bool.eq_iff_iff, Bool.and_eq_true, decide_eq_true_iff, decide_eq_true_iff, decide_eq_true_iff, List.cons.injEq]
theorem ksD_eqv (a b : List Key) : PyData.eqv (ksD a) (ksD b) = decide (a = b) := by
  unfold ksD
  simp only [PyData.eqv]
  exact kDs_eqv a b
theorem kD_plains : ∀ k : List Key, PyData.plainAll (k.map kD) = true
  | [] => by simp [PyData.plainAll]
  | .inl i :: r => by simp [PyData.plainAll, PyData.plain, kD, kD_plains r]
  | .inr z :: r => by simp [PyData.plainAll, PyData.plain, kD, kD_plains r]
theorem ksD_plain (k : List Key) : PyData.plain (ksD k) = true := by
  unfold ksD
  simp only [PyData.plain]
  exact kD_plains k
theorem kD_depths : ∀ k : List Key, PyData.depthAll (k.map kD) ≤ 1
  | [] => by simp [PyData.depthAll]
  | .inl i :: r => by
    have := kD_depths r
    simp only [List.map_cons, PyData.depthAll, kD, PyData.depth]
    omega
  | .inr z :: r => by
    have := kD_depths r
    simp only [List.map_cons, PyData.depthAll, kD, PyData.depth]
    omega
theorem ksD_depth (k : List Key) : (ksD k).depth ≤ 2 := by
  have := kD_depths k
  unfold ksD
  simp only [PyData.depth]
  omega
/-- a row of ints and texts -/
def KyAt (K : PySem.W.Frag) (H : Hp) (v : V) (k : List Key) : Prop := ∃ r, v = .ref r ∧ SqT K H r (k.map kV)
theorem kV_dp {K : PySem.W.Frag} {H : Hp} : ∀ k : Key, Dp K H (kV k) (kD k)
  | .inl _ => .int _
  | .inr _ => .str _
theorem kVs_dp {K : PySem.W.Frag} {H : Hp} : ∀ k : List Key, DpAll K H (k.map kV) (k.map kD)
  | [] => .nil
  | a :: r => .cons (kV_dp a) (kVs_dp r)
theorem KyAt.dp {K : PySem.W.Frag} {H : Hp} {v : V} {k : List Key} (h : KyAt K H v k) : Dp K H v (ksD k) := by
  obtain ⟨r, rfl, h⟩ := h
  exact .tup h (kVs_dp k)
inductive KysIn (K : PySem.W.Frag) (H : Hp) : List V → List (List Key) → Prop
  | nil : KysIn K H [] []
  | cons {v : V} {k : List Key} {vs : List V} {ks : List (List Key)} : KyAt K H v k → KysIn K H vs ks → KysIn K H (v :: vs) (k :: ks)
theorem KysIn.dp {K : PySem.W.Frag} {H : Hp} {vs : List V} {ks : List (List Key)} (h : KysIn K H vs ks) : DpAll K H vs (ks.map ksD) := by
  induction h with
  | nil => exact .nil
  | cons a _ ih => exact .cons a.dp ih
theorem ksD_plainAll : ∀ ks : List (List Key), PyData.plainAll (ks.map ksD) = true
  | [] => by simp [PyData.plainAll]
  | k :: r => by
    rw [List.map_cons]
    simp only [PyData.plainAll, Bool.and_eq_true]
    exact ⟨ksD_plain k, ksD_plainAll r⟩
theorem ksD_any (ks : List (List Key)) (k : List Key) : ((ks.map ksD).any fun d => PyData.eqv d (ksD k)) = decide (k ∈ ks) := by
  induction ks with
  | nil => simp
  | cons a r ih =>
    rw [List.map_cons, List.any_cons, ih, ksD_eqv, Bool.eq_iff_iff, Bool.or_eq_true, decide_eq_true_iff, decide_eq_true_iff, decide_eq_true_iff, List.mem_cons]
    exact ⟨fun h => h.imp (fun e => e.symm) id, fun h => h.imp (fun e => e.symm) id⟩
def rInKy (K : PySem.W.Frag) (neg : Bool) : R2 := fun x y H Q => ∃ (k : List Key) (l : Addr) (vs : List V) (ks : List (List Key)), KyAt K H x k ∧ y = .ref l ∧ (SqT K H l vs ∨ SqL K H l vs) ∧ KysIn K H vs ks ∧ Q (.bl (if neg then !decide (k ∈ ks) else decide (k ∈ ks))) H
theorem op_inKy (K : PySem.W.Frag) (neg : Bool) (hu : X.A.units + 64 < cLine) (hK : X.K = K := by rfl) : OpR X (compareOp (if neg then .NotIn else .In)) (rInKy K neg) := by
  subst hK
  intro pins s σ H x y v u Q I rx ry h
  obtain ⟨k, l, vs, ks, hp, rfl, hl, hv, q⟩ := h
  obtain ⟨bs, rd⟩ := Dp.reads I _ x v hp.dp rx
  have room : X.A.units + 1 + min (PyData.depthAll (ks.map ksD)) (ksD k).depth < cLine := by
    have := ksD_depth k
    have := Nat.min_le_right (PyData.depthAll (ks.map ksD)) (ksD k).depth
    omega
  rcases hl with hl | hl
  · obtain ⟨as, rc⟩ := Dp.reads I _ (.ref l) u (.tup hl hv.dp) ry
    cases neg
    · exact PySem.SeqAt.in_tuple_data rc rd (ksD_plainAll ks) (ksD_plain k) room (by rw [ksD_any]; exact ⟨.bl _, H, I, rfl, q⟩)
    · exact PySem.SeqAt.notIn_tuple_data rc rd (ksD_plainAll ks) (ksD_plain k) room (by rw [ksD_any]; exact ⟨.bl _, H, I, rfl, q⟩)
  · obtain ⟨as, rc⟩ := Dp.reads I _ (.ref l) u (.lst hl hv.dp) ry
    cases neg
    · exact PySem.SeqAt.in_list_data rc rd (ksD_plainAll ks) (ksD_plain k) room (by rw [ksD_any]; exact ⟨.bl _, H, I, rfl, q⟩)
    · exact PySem.SeqAt.notIn_list_data rc rd (ksD_plainAll ks) (ksD_plain k) room (by rw [ksD_any]; exact ⟨.bl _, H, I, rfl, q⟩)
theorem inKy (K : PySem.W.Frag) (hu : X.A.units + 64 < cLine) (hK : X.K = K := by rfl) : OpR X (compareOp .In) (rInKy K false) := op_inKy K false hu hK
theorem notInKy (K : PySem.W.Frag) (hu : X.A.units + 64 < cLine) (hK : X.K = K := by rfl) : OpR X (compareOp .NotIn) (rInKy K true) := op_inKy K true hu hK
def rEqKy (K : PySem.W.Frag) : R2 := fun x y H Q => ∃ p q : List Key, KyAt K H x p ∧ KyAt K H y q ∧ Q (.bl (decide (p = q))) H
theorem eqKy (K : PySem.W.Frag) (hu : X.A.units + 64 < cLine) (hK : X.K = K := by rfl) : OpR X (compareOp .Eq) (rEqKy K) := by
  subst hK
  intro pins s σ H x y v u Q I rx ry h
  obtain ⟨p, q, hp, hq, k⟩ := h
  obtain ⟨as, ra⟩ := Dp.reads I _ x v hp.dp rx
  obtain ⟨bs, rb⟩ := Dp.reads I _ y u hq.dp ry
  have := ksD_depth p
  have := Nat.min_le_left (ksD p).depth (ksD q).depth
  exact PySem.SeqAt.eq_plain ra rb (ksD_plain p) (ksD_plain q) (by omega) (by rw [ksD_eqv]; exact ⟨.bl _, H, I, rfl, k⟩)
def rNeKy (K : PySem.W.Frag) : R2 := fun x y H Q => ∃ p q : List Key, KyAt K H x p ∧ KyAt K H y q ∧ Q (.bl (!decide (p = q))) H
theorem neKy (K : PySem.W.Frag) (hu : X.A.units + 64 < cLine) (hK : X.K = K := by rfl) : OpR X (compareOp .NotEq) (rNeKy K) := by
  subst hK
  intro pins s σ H x y v u Q I rx ry h
  obtain ⟨p, q, hp, hq, k⟩ := h
  obtain ⟨as, ra⟩ := Dp.reads I _ x v hp.dp rx
  obtain ⟨bs, rb⟩ := Dp.reads I _ y u hq.dp ry
  have := ksD_depth p
  have := Nat.min_le_left (ksD p).depth (ksD q).depth
  exact PySem.SeqAt.ne_plain ra rb (ksD_plain p) (ksD_plain q) (by omega) (by rw [ksD_eqv]; exact ⟨.bl _, H, I, rfl, k⟩)

/-! ### setdefault and del for dicts by rows -/
theorem kt_none {H : Hp} {kvs : List (List Key × V)} {xs : List (List Key × Addr × Value)} (rel : KT H kvs xs) {k : List Key} (h : atKey xs k = none) : valV kvs k = none := by
  have r := rel.val k
  rw [h] at r
  cases e : valV kvs k with
  | none => rfl
  | some v => rw [e] at r; exact (show False from r).elim
theorem kt_some {H : Hp} {kvs : List (List Key × V)} {xs : List (List Key × Addr × Value)} (rel : KT H kvs xs) {k : List Key} {p : Addr × Value} (h : atKey xs k = some p) : ∃ v, valV kvs k = some v ∧ RelV v p.2 := by
  have r := rel.val k
  rw [h] at r
  cases e : valV kvs k with
  | none => rw [e] at r; exact (show False from r).elim
  | some v => rw [e] at r; exact ⟨v, rfl, r⟩
def tDSetdT (td ty tx : TE) : TE := fun σ H Q => td σ H fun x H1 => ∃ a, x = .ref a ∧ IsD H1 a ∧ ty σ H1 fun y H2 => tx σ H2 fun z H3 => ∃ (kvs : List (List Key × V)) (k : List Key) (b : Addr), H3 a = some (.dT kvs) ∧ y = .ref b ∧ H3 b = some (.tup (k.map kV)) ∧ kvs.length < sizeLine ∧
  (∀ v, valV kvs k = some v → Q v H3) ∧ (valV kvs k = none → Q z (upd H3 a (.dT (putK kvs k z))))
theorem pe_dsetdT {o e f : Expr} {td ty tx : TE} {apos cpos : Pos} (hu : X.A.units + 64 < cLine) (ho : PE X o td) (he : PE X e ty) (hf : PE X f tx) (m : M2 X o "setdefault" apos e f cpos) : PE X (.Call (.Attribute o "setdefault" apos) [e, f] [] cpos) (tDSetdT td ty tx) := by
  refine ⟨fun pins s σ H Q I h => wpAny_Call_method m.base m.few m.line PySem.F.plainAttrs_dict PySem.F.slot_dict_setdefault PySem.F.type_dict_setdefault (thn (ho.run pins s σ H _ I h) fun u s1 ⟨x, H1, I1, rx, a, ex, d, q1⟩ => ?_)⟩
  subst ex
  obtain rfl : u = Value.ref a := rx
  obtain ⟨g1, g2, _⟩ := isD_at I1 d
  refine ⟨g1, g2, ?_⟩
  rw [m.trees]
  refine Calls.callWith_builtin rfl (Calls.evalArgs_plain (Calls.spliced_cons (thn (he.run pins s1 σ H1 _ I1 q1) fun ku s2 ⟨y, H2, I2, ry, q2⟩ => Calls.spliced_cons (thn (hf.run pins s2 σ H2 _ I2 q2) fun du s3 ⟨z, H3, I3, rz, kvs, k, b, ea, ey, eb, hl, q3, q4⟩ => Calls.spliced_nil ?_))))
  subst ey
  obtain rfl : ku = Value.ref b := ry
  obtain ⟨z0, hd, xs, rel, dd⟩ := dt_of I3.hok ea
  have hz : xs.length ≤ sizeLine := by rw [← Paired.length rel]; exact z0
  refine call_setdefault_heap (knd := tupleKind (mixKind X.prog X.w)) (k := k) (hsz := hz) (tupleKind_room_in1 (by omega)) (key_of I3.hok eb) hd dd (fun p hp => ?_) fun hn h' dd' hs => ?_
  · obtain ⟨v, ev, rv⟩ := kt_some rel hp
    exact ⟨v, H3, I3.tok _, rv, q3 v ev⟩
  · have ev := kt_none rel hn
    have hl2 : (putK kvs k z).length ≤ sizeLine := by
      have := length_putK kvs k z
      omega
    obtain ⟨q, es, ep, hq, h2, h3, h4, _, h5⟩ := dd'
    have keep : ∀ c ys, H3 c = some (.tup ys) → (upd H3 a (.dT (putK kvs k z))) c = some (.tup ys) := fun c ys ec => by
      rw [upd_ne (ne_of ec ea (fun z => nomatch z))]
      exact ec
    have nw : ObjOk X.prog X.w (upd H3 a (.dT (putK kvs k z))) h' a (.dT (putK kvs k z)) := ⟨hl2, hd, _, (rel.put k eb rz).keeps keep, q, es, ep, hq, h2, h3, h4, h5⟩
    exact ⟨z, _, d_write I3 (by rw [ea]; exact True.intro) hs ⟨q, hq⟩ nw, rz, q4 ev⟩
def sDDelT (td ty : TE) : TS := fun D σ H => td σ H fun x H1 => ty σ H1 fun y H2 => ∃ (a b : Addr) (kvs : List (List Key × V)) (k : List Key), x = .ref a ∧ y = .ref b ∧ H2 a = some (.dT kvs) ∧ H2 b = some (.tup (k.map kV)) ∧ (valV kvs k).isSome = true ∧ D.nx σ (upd H2 a (.dT (dropK kvs k)))
theorem ps_ddelT {o i : Expr} {td ty : TE} {tpos pos : Pos} (hu : X.A.units + 64 < cLine) (ho : PE X o td) (hi : PE X i ty) : PS X (.Delete [.Subscript o i tpos] pos) (sDDelT td ty) := by
  refine ⟨fun pins s σ H D I h => wpAny_Delete (wpAny_deleteEach_cons (wpAny_delete_Subscript (thn (ho.run pins s σ H _ I h) fun u s1 ⟨x, H1, I1, rx, q1⟩ => thn (hi.run pins s1 σ H1 _ I1 q1) fun iv s2 ⟨y, H2, I2, ry, a, b, kvs, k, ex, ey, ea, eb, l, q⟩ => ?_)))⟩
  subst ex
  subst ey
  obtain rfl : u = Value.ref a := rx
  obtain rfl : iv = Value.ref b := ry
  obtain ⟨z0, hd, xs, rel, dd⟩ := dt_of I2.hok ea
  have hz : xs.length ≤ sizeLine := by rw [← Paired.length rel]; exact z0
  obtain ⟨p, hp⟩ : ∃ p, atKey xs k = some p := by
    cases e : atKey xs k with
    | none => rw [kt_none rel e] at l; cases l
    | some p => exact ⟨p, rfl⟩
  refine wpAny_delItem_heap (knd := tupleKind (mixKind X.prog X.w)) (k := k) (hsz := hz) (tupleKind_room_in1 (by omega)) (key_of I2.hok eb) hd dd hp fun h' dd' hs => wpAny_deleteEach_nil ?_
  obtain ⟨r, es, ep, hr, h2, h3, h4, _, h5⟩ := dd'
  have keep : ∀ c ys, H2 c = some (.tup ys) → (upd H2 a (.dT (dropK kvs k))) c = some (.tup ys) := fun c ys ec => by
    rw [upd_ne (ne_of ec ea (fun z => nomatch z))]
    exact ec
  have nw : ObjOk X.prog X.w (upd H2 a (.dT (dropK kvs k))) h' a (.dT (dropK kvs k)) := ⟨Nat.le_trans (dropK_le kvs k) z0, hd, _, (DX.KT_drop k rel).keeps keep, r, es, ep, hr, h2, h3, h4, h5⟩
  exact ⟨σ, _, d_write I2 (by rw [ea]; exact True.intro) hs ⟨r, hr⟩ nw, q⟩
/-! ### sorted, the items being tuples of data -/
theorem each_vals {xs : List V} {us : List Value} (r : Vals xs us) : PySem.W.EachIs (fun (u : Value) (x : V) => RelV x u) us xs := by
  induction r with
  | nil => exact .nil
  | cons h _ ih => exact .cons h ih
theorem vals_each {xs : List V} {us : List Value} (r : PySem.W.EachIs (fun (u : Value) (x : V) => RelV x u) us xs) : Vals xs us := by
  induction r with
  | nil => exact .nil
  | cons h _ ih => exact .cons h ih
theorem each_dp {pins : List (Addr × Obj)} {σ : L2.St} {H : Hp} {s : Shared} {k : V → PyData} (I : Inv X pins σ H s) {xs : List V} {us : List Value} (r : Vals xs us) (h : ∀ x ∈ xs, Dp X.K H x (k x)) : PySem.W.EachIs (fun (u : Value) (x : V) => ∃ as, Reads s.heap u (k x) as) us xs := by
  induction r with
  | nil => exact .nil
  | cons e _ ih => exact .cons (Dp.reads I _ _ _ (h _ List.mem_cons_self) e) (ih fun x hx => h x (List.mem_cons_of_mem _ hx))
def rSortedD (K : PySem.W.Frag) : List V → Hp → VK → Prop := fun vs H Q => ∃ (a : Addr) (xs : List V) (k : V → PyData), vs = [.ref a] ∧ SqL K H a xs ∧ (∀ x ∈ xs, Dp K H x (k x) ∧ (∃ y r, k x = .tuple (y :: r)) ∧ (k x).depth ≤ 10) ∧ PySem.W.AllAlike (xs.map k) ∧
  ∀ p, H p = none → Q (.ref p) (upd H p (.lst (xs.mergeSort (PySem.W.dataLe false k))))
theorem cr_sortedD (K : PySem.W.Frag) (hu : X.A.units + 64 < cLine) (hK : X.K = K := by rfl) : CallR X (.builtin "sorted") (rSortedD K) := by
  subst hK
  intro pins s σ H vs us Q I r h
  obtain ⟨a, xs, k, rfl, hs, hx, al, q⟩ := h
  obtain ⟨its, rv, hl, hz⟩ := I.list hs
  obtain ⟨u, rfl, ru⟩ := vals1 r
  obtain rfl : u = Value.ref a := ru
  refine PySem.W.sorted_data (R := fun (u : Value) (x : V) => RelV x u) (bs := xs) (enc := k) hl.isList (each_vals rv) (each_dp I rv fun x m => (hx x m).1) al (.inl fun d hd => ?_) hz (fun x m => by have := (hx x m).2.2; omega) fun out lo eo => ?_
  · obtain ⟨x, m, rfl⟩ := List.mem_map.mp hd
    exact (hx x m).2.1
  · obtain ⟨c, hc⟩ := PyProof.Rows.sortedAll_at s.heap its out.toArray
    have lm : (xs.mergeSort (PySem.W.dataLe false k)).length = xs.length := List.length_mergeSort _
    have nw : ObjOk X.prog X.w (upd H (s.heap.objs.size + 1) (.lst (xs.mergeSort (PySem.W.dataLe false k)))) (sortedAll s.heap its out.toArray) (s.heap.objs.size + 1) (.lst (xs.mergeSort (PySem.W.dataLe false k))) := ⟨by rw [lm]; exact hz, out, c, vals_each eo, hc⟩
    exact ⟨.ref (s.heap.objs.size + 1), _, I.laid (t' := s.toks) (fun b o e => PyProof.Rows.sortedAll_old e) (Nat.le_succ _) nw, rfl, q _ (I.hok.fresh (Nat.le_succ _))⟩
/-! ### < and <= of data -/
def rLtD (K : PySem.W.Frag) : R2 := fun x y H Q => ∃ d e : PyData, Dp K H x d ∧ Dp K H y e ∧ PySem.W.alike d e = true ∧ d ≠ .none ∧ d.depth ≤ 10 ∧ Q (.bl (PySem.W.dataLt d e)) H
theorem ltD (K : PySem.W.Frag) (hu : X.A.units + 64 < cLine) (hK : X.K = K := by rfl) : OpR X (compareOp .Lt) (rLtD K) := by
  subst hK
  intro pins s σ H x y v u Q I rx ry h
  obtain ⟨d, e, hd, he, al, nn, dp, q⟩ := h
  obtain ⟨as, ra⟩ := Dp.reads I _ x v hd rx
  obtain ⟨bs, rb⟩ := Dp.reads I _ y u he ry
  have := Nat.min_le_left d.depth e.depth
  exact PySem.W.lt_data ra rb al nn (by omega) ⟨.bl _, H, I, rfl, q⟩
def rLeD (K : PySem.W.Frag) : R2 := fun x y H Q => ∃ d e : PyData, Dp K H x d ∧ Dp K H y e ∧ PySem.W.alike d e = true ∧ d ≠ .none ∧ d.depth ≤ 10 ∧ Q (.bl (!PySem.W.dataLt e d)) H
theorem leD (K : PySem.W.Frag) (hu : X.A.units + 64 < cLine) (hK : X.K = K := by rfl) : OpR X (compareOp .LtE) (rLeD K) := by
  subst hK
  intro pins s σ H x y v u Q I rx ry h
  obtain ⟨d, e, hd, he, al, nn, dp, q⟩ := h
  obtain ⟨as, ra⟩ := Dp.reads I _ x v hd rx
  obtain ⟨bs, rb⟩ := Dp.reads I _ y u he ry
  have := Nat.min_le_left d.depth e.depth
  exact PySem.W.le_data ra rb al nn (by omega) ⟨.bl _, H, I, rfl, q⟩
end
/-! ### a method with a star parameter: L2.pe_methR of HandS.More -/
structure CalMV (P : Program) (w : World) (K : PySem.W.Frag) (mg : Str → Option Value) (base : Heap) (CX : CXT) (k : Nat) (C : Addr) (m : Str) (f : Addr) (n : Nat) (sp : Sp) : Prop where
  G : FnR P w K mg base CX k f (spV n sp)
  cl : Cls K C
  me : Meth K C m f
end El

set_option Elab.async false
set_option linter.all false
set_option maxRecDepth 100000
set_option maxHeartbeats 4000000
/-! Own words: an own class compared (==, <, <=) by its own defs; a tuple times an int, with all its cases. -/
namespace El
open PySem PySem.Spec PyProof.Rows L2
structure CmpC (K : PySem.W.Frag) (C f : Addr) (op : CmpOp) : Prop where
  at_ : PySem.W.findIn K (.ref C) (cmpInfo op).2.1 = some (some (.ref f))
  fn : PySem.W.isFn K (.ref f) = true
structure CalCm (P : Program) (w : World) (K : PySem.W.Frag) (mg : Str → Option Value) (base : Heap) (CX : CXT) (k : Nat) (C : Addr) (op : CmpOp) (f : Addr) (fd : FuncData) (ps : List Str) (sp : Sp) : Prop extends CalB P w K mg base CX k f fd ps sp where
  cm : CmpC K C f op
section
variable {X : Cx} {CX : CXT} {k : Nat} {C f : Addr} {fd : FuncData} {ps : List Str} {sp : Sp} {E : XK} {op : CmpOp}
theorem op_cmpO (c : CmpC X.K C f op) (F : FnOk X.prog X.w X.K X.mg X.base CX k f fd ps sp) (hr : Room k X.A) (hb : Binds X.K fd ps []) (hx : Passes CX X E) (hop : ∀ a b, compareOp op a b = richCompare op a b := by intro _ _; rfl) : OpR X (compareOp op) (rOwn C sp E) := by
  intro pins s σ H x y v u Q I rx ry h
  obtain ⟨a, b, dx, fs, dy, gs, rfl, rfl, ea, eb, q⟩ := h
  obtain rfl : v = Value.ref a := rx
  obtain rfl : u = Value.ref b := ry
  obtain ⟨m, fr⟩ := I.fr
  obtain ⟨mA, O, _⟩ := ins_get I.hok ea
  obtain ⟨od, J, _⟩ := O.look
  obtain ⟨mB, O2, _⟩ := ins_get I.hok eb
  obtain ⟨od2, J2, _⟩ := O2.look
  rw [hop]
  refine PySem.W.cmp_K (tb := .ref C) hr.units0 fr I.ok.mod.kin J J2.type (by simp [PySem.W.notFirst]) c.at_ c.fn ?_
  refine wpAny_mono (run_fn (us := [.ref a, .ref b]) (vs := [.ref a, .ref b]) (ds := []) (dvs := []) F hr hb .nil hx I (.cons rfl (.cons rfl .nil)) q) (fun u' s' h' => cmpBack_of h') fun _ _ z => z
end
/-! ### a += y, by an own def -/
section
variable {X : Cx} {CX : CXT} {k : Nat} {C f : Addr} {fd : FuncData} {ps : List Str} {sp : Sp} {E : L2.St → XK} {op : Operator} {x : Str} {i : Nat} {e : Expr} {te : TE} {pos pos' : Pos}
def tAugO (i : Nat) (C : Addr) (sp : Sp) (E : L2.St → XK) (te : TE) : TS := fun D σ H => ∃ a, σ[i]? = some (some (V.ref a)) ∧ te σ H fun y H1 => ∃ dx fs, H1 a = some (.ins C dx fs) ∧ sp [.ref a, y] H1 (fun v H2 => D.nx (σ.set i (some v)) H2) (E σ)
theorem ps_augO (hN : X.N.Nodup) (hi : X.N[i]? = some x) (hx0 : Loc X.env.scope x) (c : InpC X.K C f op) (F : FnOk X.prog X.w X.K X.mg X.base CX k f fd ps sp) (hr : Room k X.A) (hb : Binds X.K fd ps []) (hx : ∀ σ, PassesAt CX X σ (E σ)) (he : PE X e te)
    (hf : X.fn x = true ∨ X.env.scope.names.lookup x = some .local := by first | exact .inl rfl | exact .inr rfl | assumption) : PS X (.AugAssign (.Name x pos') op e pos) (tAugO i C sp E te) := by
  refine ⟨fun pins s σ H D I h => ?_⟩
  obtain ⟨a, e1, h⟩ := h
  obtain ⟨m, hn, hl⟩ := I.loc
  have vis : Vis X.env.scope x := hx0.elim (fun k => .inl k) fun k => .inr (.inl k)
  obtain ⟨u, r, l⟩ := hl i x _ hi e1 vis
  obtain rfl : u = Value.ref a := r
  refine wpAny_AugAssign_Name ?_
  have go : wpAny (model X.prog X.w) X.A (eval e X.env) (fun w s₂ => wpAny (model X.prog X.w) X.A (inplaceOp op (.ref a) w) (fun r s₃ => wpAny (model X.prog X.w) X.A (storeName X.env x r) (fun _ => SP X pins D .next) X.xe s₃) X.xe s₂) X.xe s := by
    refine thn (he.run pins s σ H _ I h) fun w s1 ⟨y, H1, I1, r1, dx, fs, ea, q⟩ => ?_
    obtain ⟨m1, fr⟩ := I1.fr
    obtain ⟨mA, O, _⟩ := ins_get I1.hok ea
    obtain ⟨od, J, _⟩ := O.look
    have run := PySem.W.ksp_inplace (b := w) fr I1.ok.mod.kin J c.sf c.at_ c.fn (wpAny_mono (run_fnS (us := [.ref a, w]) (vs := [.ref a, y]) F hr hb (hx σ) I1 (.cons rfl (.cons r1 .nil)) q) (fun u' s' h' => cmpBack_of h') fun _ _ z => z)
    exact thn run fun z s2 ⟨zv, H2, I2, r2, q2⟩ => store_ok I2 hN hi hx0 r2 (fun s3 I3 => ⟨_, H2, I3, q2⟩) hf
  rcases l with ⟨hk, hm⟩ | ⟨hk, c, hc, hcell⟩
  · exact wpAny_loadName_local I.ok.kind hk hn hm go
  · have no : ∀ q : NameKind, X.env.scope.names.lookup x = some .free → X.env.scope.names.lookup x = some q → q = .free := fun q h1 h2 => (Option.some.inj (h1.symm.trans h2)).symm
    rcases hk with hk | hk
    · exact wpAny_loadName_cell I.ok.kind hk hc hcell go
    · rcases hx0 with k | k
      · exact nomatch no _ hk k
      · exact nomatch no _ hk k
end
/-! ### a tuple times an int -/
theorem mulT_self (p : Addr) (xs : Array Value) (m : Nat) (dd : Option Addr) (sl : Array (Option Value)) (i : Int) (u : PySem.Tok) (b0 : (decide (i < -(2 ^ 63)) || decide (i ≥ 2 ^ 63)) = false) (b1 : (xs.isEmpty || i == 1) = true) :
    Meets (Builtin.«tuple.__mul__» ⟨[.ref p, .int i u], []⟩) (fun _ R s => s.heap.get? p = some { cls := .type "tuple", dict := dd, data := .seq xs m, slots := sl } ∧ R (.ok (.ret (Value.ref p))) s) :=
  .of_wp fun prog w A R s h => by
    obtain ⟨hp, g, d, tk, os⟩ := s
    obtain ⟨hq, h⟩ := h
    have f1 := AutoSeq1.idx_int
    wp_walk using wpAny_loadPart' hq
    repeat (first
      | (refine wpAny_ite_false (decide_eq_false (by rw [b0]; exact Bool.false_ne_true)) ?_; wp_walk using wpAny_loadPart' hq)
      | (refine wpAny_ite_true (by rw [b1]) ?_; wp_walk using wpAny_loadPart' hq))
    exact ⟨_, rfl, h⟩
theorem mulT_none (p : Addr) (xs : Array Value) (m : Nat) (dd : Option Addr) (sl : Array (Option Value)) (i : Int) (u : PySem.Tok) (b0 : (decide (i < -(2 ^ 63)) || decide (i ≥ 2 ^ 63)) = false) (b1 : (xs.isEmpty || i == 1) = false) (b2 : (decide (i ≤ 0) || xs.isEmpty) = true) :
    Meets (Builtin.«tuple.__mul__» ⟨[.ref p, .int i u], []⟩) (fun _ R s => s.heap.get? p = some { cls := .type "tuple", dict := dd, data := .seq xs m, slots := sl } ∧
      R (.ok (.ret (Value.ref s.heap.objs.size))) { s with heap := s.heap.push { cls := Value.type "tuple", data := Data.seq #[] }, toks := s.toks }) :=
  .of_wp fun prog w A R s h => by
    obtain ⟨hp, g, d, tk, os⟩ := s
    obtain ⟨hq, h⟩ := h
    have f1 := AutoSeq1.idx_int
    wp_walk using wpAny_loadPart' hq
    repeat (first
      | (refine wpAny_ite_false (decide_eq_false (by rw [b0]; exact Bool.false_ne_true)) ?_; wp_walk using wpAny_loadPart' hq)
      | (refine wpAny_ite_false (decide_eq_false (by rw [b1]; exact Bool.false_ne_true)) ?_; wp_walk using wpAny_loadPart' hq)
      | (refine wpAny_ite_true (by rw [b2]) ?_; wp_walk using wpAny_loadPart' hq))
    exact ⟨_, rfl, h⟩
/-- the cases: the same tuple, a new one -/
def rMulT (K : PySem.W.Frag) : R2 := fun x y H Q => ∃ (l : Addr) (k : Int) (xs : List V), x = .ref l ∧ y = .int k ∧ SqT K H l xs ∧ 0 ≤ k ∧ k ≤ 1000 ∧ xs.length ≤ 1000 ∧ (xs = [] ∨ k = 1 → Q (.ref l) H) ∧ ∀ p, H p = none → Q (.ref p) (upd H p (.tup (List.replicate k.toNat xs).flatten))
theorem op_mulT {X : Cx} (K : PySem.W.Frag) (hK : X.K = K := by rfl) : OpR X (binaryOp .Mult) (rMulT K) := by
  subst hK
  intro pins s σ H x y v u Q I rx ry h
  obtain ⟨l, k, xs, rfl, rfl, hT, k0, k1, few, q1, q2⟩ := h
  by_cases two : xs ≠ [] ∧ 2 ≤ k
  · exact op_repT pins s σ H _ _ v u Q I rx ry ⟨l, k, xs, rfl, rfl, hT, two.1, two.2, k1, few, q2⟩
  obtain rfl : v = Value.ref l := rx
  obtain ⟨t, rfl⟩ := ry
  obtain ⟨us, r, ⟨⟨cl, dd, da, sl⟩, ho, e1, n, e2⟩, hz⟩ := I.tuple hT
  simp only at e1 e2
  subst e1 e2
  have eL : us.length = xs.length := r.length.symm
  have b0 : (decide (k < -(2 ^ 63)) || decide (k ≥ 2 ^ 63)) = false := by
    rw [Bool.or_eq_false_iff, decide_eq_false_iff_not, decide_eq_false_iff_not]
    omega
  refine wpAny_binaryOp_repeat_ref (T := "tuple") (U := "int") (by decide) ⟨_, ho, rfl⟩ (fun z => typeIs_int z k t) noFill_tuple_mul F.fills_int_mul F.slot_int_rmul repeat_tuple F.slot_int_index.lookup ?_
  refine call_meets F.slot_int_rmul (typeIs_int s k t) F.entry_int_rmul (F.args_int_rmul_2 _ _) (int_rmul_tuple k t l us.toArray n dd sl) ⟨ho, ?_⟩
  refine ⟨rfl, ⟨_, ho, rfl⟩, ?_⟩
  by_cases one : (us.toArray.isEmpty || k == 1) = true
  · refine call_meets F.slot_tuple_mul ⟨_, ho, rfl⟩ F.entry_tuple_mul (F.args_tuple_mul_2 _ _) (mulT_self l us.toArray n dd sl k t b0 one) ⟨ho, ?_⟩
    refine ⟨.ref l, H, I, rfl, q1 ?_⟩
    rcases Bool.or_eq_true_iff.mp one with e | e
    · left
      have : us = [] := by
        cases us with
        | nil => rfl
        | cons a b => cases e
      rw [this] at eL
      exact List.eq_nil_of_length_eq_zero eL.symm
    · exact .inr (eq_of_beq e)
  · have one := Bool.eq_false_iff.mpr one
    have kz : k ≤ 0 := by
      rw [Bool.or_eq_false_iff] at one
      have n1 : k ≠ 1 := fun e => by rw [e] at one; exact absurd one.2 (by decide)
      have n2 : xs ≠ [] := fun e => by
        rw [e] at eL
        have : us = [] := List.eq_nil_of_length_eq_zero eL
        rw [this] at one
        exact absurd one.1 (by decide)
      have : ¬ 2 ≤ k := fun c => two ⟨n2, c⟩
      omega
    obtain rfl : k = 0 := by omega
    refine call_meets F.slot_tuple_mul ⟨_, ho, rfl⟩ F.entry_tuple_mul (F.args_tuple_mul_2 _ _) (mulT_none l us.toArray n dd sl 0 t b0 one rfl) ⟨ho, ?_⟩
    refine ⟨.ref s.heap.objs.size, _, I.laid (t' := s.toks) (o := .tup []) (fun b ob q => Heap.get?_push_of_some _ q) (Nat.le_refl _) ?_, rfl, q2 _ (I.hok.fresh (Nat.le_refl _))⟩
    exact ⟨Nat.zero_le _, [], .nil, IsTup.new _ _⟩
end El

set_option Elab.async false
set_option linter.all false
set_option maxRecDepth 100000
set_option maxHeartbeats 4000000
/-! Own words: a name set to a dict comprehension. -/
namespace El
open PySem PySem.Spec PyProof.Rows L2
section
variable {X : Cx}
theorem ps_setDc {i : Nat} {y : Str} {py : Pos} {kx vx tg iter : Expr} {ifs : List Expr} {scope : Scope} {own : List (Str × Nat)} {pos spos : Pos} {wi : TI} {g : TG} {tt : TT} {tk tv : TE} (hc : X.calm = true) (hN : X.N.Nodup) (hy : X.N[i]? = some y) (hyl : X.env.scope.names.lookup y = some .local)
    (hsw : swapsWith (.DictComp kx vx [⟨tg, iter, ifs, 0⟩] scope pos) (some (.Name y py)) spos.line X.env = pure true) (hi : PI X tg iter wi) (ok : BlkOk X.N X.env.scope scope own)
    (hg : ∀ (s : Shared) (H : Hp) (C : Addr) (cl : List (Str × Addr)) (fp : List Addr), PG (X.blk s H scope (compEnvC scope cl C X.env) fp) tg g) (ht : ∀ (s : Shared) (H : Hp) (C : Addr) (cl : List (Str × Addr)) (fp : List Addr), PTs (X.blk s H scope (compEnvC scope cl C X.env) fp) ifs tt)
    (hk : ∀ (s : Shared) (H : Hp) (C : Addr) (cl : List (Str × Addr)) (fp : List Addr), PE (X.blk s H scope (compEnvC scope cl C X.env) fp) kx tk)
    (he : ∀ (s : Shared) (H : Hp) (C : Addr) (cl : List (Str × Addr)) (fp : List Addr), PE (X.blk s H scope (compEnvC scope cl C X.env) fp) vx tv) (hs : ∀ x, foldedSetIterable iter X.env x = pure x := by intro _; rfl) :
    PS X (.Assign [.Name y py] (.DictComp kx vx [⟨tg, iter, ifs, 0⟩] scope pos) spos) (tAsg (tDc wi g tt tk tv (own.map (·.2))) (gName i)) := by
  refine ⟨fun pins s σ H D I h => ?_⟩
  rw [exec_Assign_Name_used _ _ _ _ hsw]
  refine wpAny_bind (wpAny_standAt (wpAny_bind ?_))
  show wpAny _ X.A (do let _ ← comprehension (.DictComp kx vx [⟨tg, iter, ifs, 0⟩] scope pos) scope X.env (firstIterPos [⟨tg, iter, ifs, 0⟩] pos) newDict false (eval iter X.env) (some (assign (.Name y py) X.env))) _ _ s
  have h : tDc wi g tt tk tv (own.map (·.2)) σ H (fun x H1 => gName i x σ H1 D.nx) := h
  refine wpAny_bind (thn (dc_core (Qf := fun _ s' => SP X pins D .next s') hc hN I hi ok hg ht hk he hs h fun L C s' m H' I' q hn f => ?_) fun _ s' hq => wpAny_pure (wpAny_pure hq))
  show wpAny _ _ (assign (.Name y py) X.env (.ref L)) _ _ _
  refine wpAny_assign_Name (store_ok2 (v := V.ref L) I' hN hy (.inl hyl) rfl (fun s2 I2 ⟨a, sb, ha⟩ => ?_) (.inr hyl))
  obtain ⟨f0, f1, f2, f3, f4, f5⟩ := f
  have haC : C ≠ a := by
    rcases ha with z | z
    · rw [z]; exact f1
    · exact fun e => f4 y a z e.symm
  refine ⟨m, hn.sameBut sb haC, fun h3 sb3 => ?_⟩
  exact ⟨_, H', I2.turned (t' := s2.toks) (fun b o hb e => (sb3.2 b hb).trans e) f0 f1 f3 f4 f5, q⟩
theorem sw_trueD {kx vx : Expr} {gs : List Comprehension} {scope : Scope} {pos py : Pos} {y : Str} {l : Nat} {env : Env} (hk : env.scope.kind = .function) (hy : env.scope.names.lookup y = some .local) (hl : (py.line == pos.line) = true)
    (ha : (scope.names.any fun (n, k) => n == y && (k == .local || k == .cell)) = false) : swapsWith (.DictComp kx vx gs scope pos) (some (.Name y py)) l env = pure true := by
  have ky : env.kindOf y = some .local := hy
  have hb : env.blockKind = .function := by unfold Env.blockKind; rw [hk]; rfl
  unfold swapsWith
  simp only [hb, ky, ha, Expr.pos, hl]
  rfl
end
end El

set_option Elab.async false
set_option linter.all false
set_option maxRecDepth 100000
set_option maxHeartbeats 4000000
namespace El
open PySem PySem.Spec PyProof.Rows L2
section
variable {prog : Program} {w : World} {K : Type} [DecidableEq K] {knd : PySem.KeyKind prog w K} {A : Around} {s : Shared}
theorem entry_set_ne : entryFor table "set.__ne__" = some Builtin.«frozenset.__ne__» := entryFor_alias (id' := "frozenset.__ne__") (by kernel_rfl) rfl (by decide +kernel) (by kernel_rfl)
theorem sub_set_set : isSubtype (.type "set") (.type "set") = pure true := by rw [isSubtype_type]; kernel_rfl
theorem sub_set_fz : isSubtype (.type "set") (.type "frozenset") = pure false := by rw [isSubtype_type]; kernel_rfl
theorem anySet_of {a : Addr} {S : K → Bool} {n : Nat} {E : Value → Shared → Prop} {Q : Bool → Shared → Prop} (hS : s.heap.SetOf knd a S n) (h : Q true s) : wpAny (model prog w) A (Builtin.Frozenset.isAnySet (.ref a)) Q E s := by
  unfold Builtin.Frozenset.isAnySet
  show wpAny _ _ (isInstance (.ref a) (.type "set") >>= _) _ _ s
  refine wpAny_bind (wpAny_isInstance hS.typeIs sub_set_set ?_)
  exact wpAny_pure h
theorem fq_of {v : Value} (h : carriedByValue v = true) : Builtin.Frozenset.quietEq v = pure true := by
  cases v <;> first | rfl | cases h
theorem slot1_of {a b : Value} {nm : String} {E : Value → Shared → Prop} {Q : Value × Value → Shared → Prop} (h : Q (a, b) s) : wpAny (model prog w) A (Builtin.Frozenset.slot1 nm ⟨[a, b], []⟩) Q E s := by
  unfold Builtin.Frozenset.slot1 slotArgs
  simp only [List.isEmpty_nil, Bool.not_true, Bool.false_eq_true, ↓reduceIte, bind_assoc, List.length_cons, List.length_nil, bne_self_eq_false]
  exact wpAny_bind (wpAny_pure (wpAny_pure h))
theorem size_of {a : Addr} {o : Obj} {es : Array (Int × Value)} {ep : Nat} {t : SetTable} {E : Value → Shared → Prop} {Q : Nat → Shared → Prop} (ho : s.heap.get? a = some o) (hd : o.data = .set es ep t) (hf : t.fits es.size = true) (h : Q es.size s) : wpAny (model prog w) A (Builtin.Frozenset.sizeOf a) Q E s := by
  unfold Builtin.Frozenset.sizeOf
  exact wpAny_bind (wpAny_setEntries_of ho hd hf (wpAny_pure h))
theorem flip_of {q r : Bool} (z : r = false ↔ q = true) : (!q) = r := by cases q <;> cases r <;> simp_all
theorem walk_of {a b : Addr} {o o2 : Obj} {es es2 : Array (Int × Value)} {ep ep2 : Nat} {t t2 : SetTable} {E : Value → Shared → Prop} {Q : List (Int × Value) → Shared → Prop} (ho : s.heap.get? a = some o) (hd : o.data = .set es ep t) (hf : t.fits es.size = true) (hel : ElemsOf knd es.toList) (ho2 : s.heap.get? b = some o2) (hd2 : o2.data = .set es2 ep2 t2) (hf2 : t2.fits es2.size = true) (hel2 : ElemsOf knd es2.toList) (h : Q es.toList s) : wpAny (model prog w) A (Builtin.Frozenset.walkUnseen a b) Q E s := by
  unfold Builtin.Frozenset.walkUnseen
  refine wpAny_bind (wpAny_setEntries_of ho hd hf ?_)
  refine wpAny_bind (wpAny_setEntries_of ho2 hd2 hf2 ?_)
  refine wpAny_bind (wpAny_forIn_list _ (fun l b s' => b = (none, ()) ∧ s' = s ∧ ElemsOf knd l) _ ?_ ?_ _ _ ⟨rfl, rfl, fun e he => (List.mem_append.mp he).elim (hel e) (hel2 e)⟩)
  · rintro ⟨hx, x⟩ rest bb s' ⟨rfl, rfl, hl⟩
    obtain ⟨⟨k, hk, _⟩, _⟩ := hl.head
    show wpAny _ _ (Builtin.Frozenset.quietEq x >>= _) _ _ _
    rw [fq_of (knd.byValue k x hk)]
    refine wpAny_bind (wpAny_pure ?_)
    simp only [Bool.not_true, Bool.false_eq_true, if_false]
    exact wpAny_pure ⟨rfl, rfl, hl.tail⟩
  · rintro bb s' ⟨rfl, rfl, _⟩
    exact wpAny_pure h
theorem subset_of {nm : String} {a b : Addr} {S S' : K → Bool} {n n' : Nat} {E : Value → Shared → Prop} {Q : Bool → Shared → Prop} (ha : s.heap.SetOf knd a S n) (hb : s.heap.SetOf knd b S' n') (hn : n ≤ n') (h : ∀ r : Bool, (r = true ↔ ∀ k, S k = true → S' k = true) → Q r s) : wpAny (model prog w) A (Builtin.Frozenset.subsetOf nm a b) Q E s := by
  obtain ⟨o, es, ep, t, ho, hx, hd, hel, hm, hsb, hf, hz⟩ := id ha
  obtain ⟨o2, es2, ep2, t2, ho2, hx2, hd2, hel2, hm2, hsb2, hf2, hz2⟩ := id hb
  unfold Builtin.Frozenset.subsetOf
  refine wpAny_bind (size_of ho hd hf ?_)
  refine wpAny_bind (size_of ho2 hd2 hf2 ?_)
  rw [if_neg (by omega)]
  refine wpAny_bind (wpAny_setEpoch_of ho hd hf ?_)
  refine wpAny_bind (walk_of ho hd hf hel ho2 hd2 hf2 hel2 ?_)
  refine wpAny_bind (wpAny_mono (wpAny_forIn_list _ (fun l bb s' => bb = (none, ()) ∧ s' = s ∧ ElemsOf knd l ∧ (∀ e ∈ l, e ∈ es.toList) ∧ ∀ e ∈ es.toList, e ∈ l ∨ ∀ k, knd.is k e.2 = true → S' k = true) (fun bb s' => s' = s ∧ ((bb = (none, ()) ∧ ∀ k, S k = true → S' k = true) ∨ (bb = (some false, ()) ∧ ¬ ∀ k, S k = true → S' k = true))) ?_ ?_ _ _ ⟨rfl, rfl, hel, fun e he => he, fun e he => .inl he⟩) (fun bb s' z => ?_) fun _ _ z => z)
  · rintro ⟨hh, x⟩ rest bb s' ⟨rfl, rfl, hl, hin, hall⟩
    obtain ⟨⟨k, hk, e1⟩, hsc⟩ := hl.head
    have e1 : hh = knd.hash k := e1
    subst e1
    refine wpAny_bind (wpAny_holding (wpAny_setFind_of hk hsc hb fun q hq => ?_))
    by_cases c : S' k = true
    · rw [c] at hq
      have : q.isNone = false := by cases q <;> simp_all
      rw [this]
      simp only [Bool.false_eq_true, if_false]
      unfold Builtin.Frozenset.unchanged
      refine wpAny_bind (wpAny_bind (wpAny_setEpoch_of ho hd hf ?_))
      rw [if_neg (by simp)]
      refine wpAny_pure (wpAny_pure ⟨rfl, rfl, hl.tail, fun e he => hin e (List.mem_cons_of_mem _ he), fun e he => ?_⟩)
      rcases hall e he with h1 | h1
      · rcases List.mem_cons.mp h1 with h2 | h2
        · exact .inr fun j hj => by
            have : j = k := knd.inj _ _ _ (h2 ▸ hj) hk
            rw [this]; exact c
        · exact .inl h2
      · exact .inr h1
    · have c' : S' k = false := by simpa using c
      rw [c'] at hq
      have : q.isNone = true := by cases q <;> simp_all
      rw [this]
      refine wpAny_pure ⟨rfl, .inr ⟨rfl, fun all => c (all k ((hm k).mpr ⟨_, hin _ List.mem_cons_self, hk⟩))⟩⟩
  · rintro bb s' ⟨rfl, rfl, _, _, hall⟩
    refine ⟨rfl, .inl ⟨rfl, fun k hk => ?_⟩⟩
    obtain ⟨e, he, hi⟩ := (hm k).mp hk
    rcases hall e he with h1 | h1
    · cases h1
    · exact h1 k hi
  · obtain ⟨rfl, z⟩ := z
    rcases z with ⟨rfl, z⟩ | ⟨rfl, z⟩
    · exact wpAny_pure (h true ⟨fun _ => z, fun _ => rfl⟩)
    · exact wpAny_pure (h false ⟨(fun e => nomatch e), fun e => absurd e z⟩)
theorem neSets {a b : Addr} {S S' : K → Bool} {n n' : Nat} {r : Bool} (ha : s.heap.SetOf knd a S n) (hb : s.heap.SetOf knd b S' n') (hu : A.units < cLine) (hr : r = false ↔ n = n' ∧ ∀ k, S k = true → S' k = true) (E Q : Value → Shared → Prop) (h : Q (.bool r) s) : wpAny (model prog w) A (richCompare .NotEq (.ref a) (.ref b)) Q E s := by
  refine wpAny_richCompare_same_room (op := .NotEq) ha.typeIs hb.typeIs PySem.F.slot_set_ne (wpAny_call_entry PySem.F.slot_set_ne ha.typeIs entry_set_ne ?_ (PySem.F.args_set_ne_2 _ _)) hu
  unfold Builtin.«frozenset.__ne__»
  show wpAny _ _ (Builtin.Frozenset.slot1 "__ne__" ⟨[.ref a, .ref b], []⟩ >>= _) _ _ s
  refine wpAny_bind (slot1_of ?_)
  refine wpAny_bind (anySet_of hb ?_)
  simp only [Bool.not_true, Bool.false_eq_true, if_false]
  obtain ⟨o, es, ep, t, ho, hx, hd, hel, hm, hsb, hf, hz⟩ := id ha
  obtain ⟨o2, es2, ep2, t2, ho2, hx2, hd2, hel2, hm2, hsb2, hf2, hz2⟩ := id hb
  unfold Builtin.Frozenset.addrOf
  refine wpAny_bind (wpAny_pure (wpAny_bind (wpAny_pure (wpAny_bind (size_of ho hd hf (wpAny_bind (size_of ho2 hd2 hf2 ?_)))))))
  show wpAny _ _ ((if (es.size != es2.size) = true then pure false else _) >>= _) _ _ s
  by_cases c : n = n'
  · rw [if_neg (by rw [hz, hz2, c]; simp)]
    refine wpAny_bind (wpAny_bind (wpAny_bind (wpAny_isInstance ha.typeIs sub_set_fz ?_)))
    refine wpAny_pure ?_
    simp only [Bool.false_eq_true, if_false]
    refine subset_of ha hb (by omega) fun q hq => ?_
    refine wpAny_pure ⟨_, rfl, ?_, ?_⟩
    · exact fun x => nomatch x
    have e : (!q) = r := flip_of ⟨fun x => hq.mpr (hr.mp x).2, fun x => hr.mpr ⟨c, hq.mp x⟩⟩
    rw [e]
    exact h
  · rw [if_pos (by rw [hz, hz2]; simpa using c)]
    refine wpAny_bind (wpAny_pure (wpAny_pure ⟨_, rfl, ?_, ?_⟩))
    · exact fun x => nomatch x
    have e : true = r := by
      cases r with
      | true => rfl
      | false => exact absurd (hr.mp rfl).1 c
    rw [← e] at h
    exact h
end
end El

set_option Elab.async false
set_option linter.all false
set_option maxRecDepth 100000
set_option maxHeartbeats 8000000
namespace El
open PySem PySem.Spec PyProof.Rows L2
section
variable {prog : Program} {w : World} {A : Around} {E : Value → Shared → Prop} {s : Shared}
theorem setOf_ext {K : Type} [DecidableEq K] {knd : PySem.KeyKind prog w K} {h : Heap} {a : Addr} {S S' : K → Bool} {n n' : Nat} (x : h.SetOf knd a S n) (e : ∀ k, S k = S' k) (en : n = n') : h.SetOf knd a S' n' := by
  obtain rfl : S = S' := funext e
  subst en
  exact x
theorem room_fresh {n : Nat} (led : Bool) (h : n ≤ 4) : (SetTable.fresh 0 0 led).roomFor n = none := by
  unfold SetTable.roomFor SetTable.fresh SetTable.fill
  refine if_neg ?_
  show ¬ (0 + 0 + n) * 5 ≥ 7 * 3
  omega
theorem is_scan {k : Key} {v : Value} (h : (mixKind prog w).is k v = true) : v.scannable = true := by
  rcases keyIs_shape h with ⟨_, _, _, rfl⟩ | ⟨_, _, _, rfl⟩ <;> rfl
theorem pairs_get {es : List DictEntry} {vs : List (Key × Value)} (h : PySem.Pairs (mixKind prog w) es vs) : ∀ {i : Nat} {e : DictEntry}, es[i]? = some e → ∃ p, vs[i]? = some p ∧ (mixKind prog w).is p.1 e.key = true := by
  induction h with
  | nil => intro i e h; cases h
  | cons a b c ih =>
    intro i e h
    cases i with
    | zero => cases h; exact ⟨_, rfl, a⟩
    | succ i => exact ih h
theorem init_dk {d : Addr} {vs : List (Key × Value)} {led : Bool} (hd : s.heap.DictOf (mixKind prog w) d vs) (hm : (d == sysModules) = false) (few : vs.length ≤ 4) :
    codeAny (model prog w) A (.call (.builtin "set.__init__") ⟨[.ref s.heap.objs.size, .ref d], []⟩)
      (wants (fun r s2 => r = .none ∧ ∃ h' tk, s2 = { s with heap := h', toks := tk } ∧ h'.SetOf (mixKind prog w) s.heap.objs.size (fun k => vs.any fun p => decide (p.1 = k)) vs.length ∧ (∀ q o, s.heap.get? q = some o → h'.get? q = some o)) E)
      { s with heap := s.heap.push (setObj led) } := by
  have hT : Shared.TypeIs { s with heap := s.heap.push (setObj led) } (.ref s.heap.objs.size) "set" := ⟨_, Heap.get?_push_size _ rfl, rfl⟩
  refine codeAny_call_builtin PySem.F.called_set.init.plain PySem.F.entry_set_init (check_set_init_1 hT ?_)
  obtain ⟨o, es, ep, ho, hx, hdd, hes, hpr, hnd⟩ := hd
  have ho1 : (s.heap.push (setObj led)).get? d = some o := Heap.get?_push_of_some _ ho
  have hTd : Shared.TypeIs { s with heap := s.heap.push (setObj led) } (.ref d) "dict" := ⟨_, ho1, hx.1⟩
  unfold Builtin.«set.__init__» noKeywords Builtin.Frozenset.updateFrom
  have h1 := PySem.F.sub_dict_set
  have h2 := PySem.F.sub_dict_frozenset
  generalize ePI : dictEpoch = PI
  generalize eAS : Builtin.Frozenset.isAnySet = AS
  wp_walk
  subst eAS
  unfold Builtin.Frozenset.isAnySet
  show wpAny _ _ (isInstance (.ref d) (.type "set") >>= _) _ _ _
  refine wpAny_bind (wpAny_isInstance hTd h1 ?_)
  show wpAny _ _ (isInstance (.ref d) (.type "frozenset")) _ _ _
  refine wpAny_isInstance hTd h2 ?_
  simp only [Bool.false_eq_true, if_false]
  refine wpAny_bind (wpAny_typeOf hTd ?_)
  rw [if_pos (by decide)]
  refine wpAny_bind (wpAny_rule ?_)
  unfold Builtin.Frozenset.addrOf
  refine wpAny_bind (wpAny_pure ?_)
  rw [hm]
  simp only [Bool.false_eq_true, if_false]
  refine wpAny_bind (wpAny_dictEpoch ho1 hdd ?_)
  refine wpAny_bind (wpAny_dictEntries ho1 hdd ?_)
  have hl : es.size = vs.length := by rw [← Array.length_toList, hpr.length]
  have hS : (s.heap.push (setObj led)).get? s.heap.objs.size = some (setObj led) := Heap.get?_push_size _ rfl
  unfold setRoomFor
  refine wpAny_bind (wpAny_bind (wpAny_setState_of (es := #[]) (ep := 0) (t := .fresh 0 0 led) hS rfl (by rfl) ?_))
  rw [room_fresh led (by omega)]
  refine wpAny_pure ?_
  refine wpAny_bind (wpAny_dictEntries ho1 hdd ?_)
  have below : d < s.heap.objs.size := Heap.lt_size ho
  refine wpAny_bind (wpAny_mono (PySem.SeqAt.wpAny_forIn_span 0 es.size _ (fun i _ s' => ∃ h' tk, s' = { s with heap := h', toks := tk } ∧ h'.SetOf (mixKind prog w) s.heap.objs.size (fun k => (vs.take i).any fun p => decide (p.1 = k)) (min i vs.length) ∧ h'.get? d = some o ∧ ∀ q o, s.heap.get? q = some o → h'.get? q = some o) (fun _ s' => ∃ h' tk, s' = { s with heap := h', toks := tk } ∧ h'.SetOf (mixKind prog w) s.heap.objs.size (fun k => vs.any fun p => decide (p.1 = k)) vs.length ∧ ∀ q o, s.heap.get? q = some o → h'.get? q = some o) ?_ ?_ _ ?_) (fun c s' z => ?_) fun _ _ z => z)
  · rintro i c s' _ hi ⟨h', tk, rfl, hs, hod, keep⟩
    refine wpAny_bind (wpAny_dictEntries hod hdd ?_)
    obtain ⟨e, he⟩ : ∃ e, es[i]? = some e := ⟨_, Array.getElem?_eq_getElem hi⟩
    have he' : es.toList[i]? = some e := by rw [Array.getElem?_toList]; exact he
    obtain ⟨p, ep', hk⟩ := pairs_get hpr he'
    obtain ⟨k', hk', eh⟩ := hes e (Array.mem_of_getElem? he)
    have : k' = p.1 := (mixKind prog w).inj _ _ _ hk' hk
    subst this
    rw [he]
    show wpAny _ _ (holding [e.key] (setAddHashed s.heap.objs.size e.key e.hash) >>= _) _ _ _
    rw [eh]
    have iv : i < vs.length := by omega
    refine wpAny_bind (wpAny_holding (wpAny_setAddHashed_of (knd := mixKind prog w) (s := { s with heap := h', toks := tk }) hk (is_scan hk) hs (by unfold scanBound; omega) fun h2' same hs2 => ?_))
    have hod2 : h2'.get? d = some o := (same.2 d (Nat.ne_of_lt below)).trans hod
    refine wpAny_bind (wpAny_dictEpoch hod2 hdd ?_)
    rw [if_neg (by simp)]
    have no : ((vs.take i).any fun q => decide (q.1 = p.1)) = false := by
      rw [Bool.eq_false_iff]
      intro h
      obtain ⟨q, hq, e⟩ := List.any_eq_true.mp h
      have e := of_decide_eq_true e
      obtain ⟨j, hj, ej⟩ := List.getElem_of_mem hq
      rw [List.length_take] at hj
      rw [List.getElem_take] at ej
      have x1 : (vs.map (·.1))[j]? = some p.1 := by rw [List.getElem?_map, List.getElem?_eq_getElem (by omega), ej, ← e]; rfl
      have x2 : (vs.map (·.1))[i]? = some p.1 := by rw [List.getElem?_map, ep']; rfl
      have := (List.getElem?_inj (List.getElem?_eq_some_iff.mp x1).1 hnd).mp (x1.trans x2.symm)
      omega
    refine wpAny_pure ⟨h2', tk, rfl, ?_, hod2, fun q o' hq => (same.2 q (Nat.ne_of_lt (Heap.lt_size hq))).trans (keep q o' hq)⟩
    refine setOf_ext hs2 (fun k => ?_) (by rw [no, if_neg (by decide)]; omega)
    have tk' : vs.take (i + 1) = vs.take i ++ [p] := by rw [List.take_add_one, ep']; rfl
    show (((vs.take i).any fun q => decide (q.1 = k)) || decide (k = p.1)) = ((vs.take (i + 1)).any fun q => decide (q.1 = k))
    rw [tk', List.any_append, List.any_cons, List.any_nil, Bool.or_false]
    congr 1
    exact decide_eq_decide.mpr ⟨fun e => e.symm, fun e => e.symm⟩
  · rintro c s' ⟨h', tk, rfl, hs, hod, keep⟩
    refine ⟨h', tk, rfl, setOf_ext hs (fun k => ?_) (by omega), keep⟩
    rw [List.take_of_length_le (by omega)]
  · refine ⟨_, s.toks, rfl, ?_, ho1, fun q o' hq => Heap.get?_push_of_some _ hq⟩
    refine ⟨_, #[], 0, .fresh 0 0 led, hS, ⟨rfl, rfl, rfl⟩, rfl, (fun e he => by simp at he), (fun k => by simp), (by decide), (by rfl), by simp⟩
  · obtain ⟨h', tk, rfl, hs, keep⟩ := z
    exact wpAny_pure (wpAny_pure ⟨rfl, h', tk, rfl, hs, keep⟩)
end
/-- set(d), d a dict of few keys -/
theorem call_set_dk {prog : Program} {w : World} {A : Around} {E : Value → Shared → Prop} {s : Shared} {d : Addr} {vs : List (Key × Value)} {Q : Value → Shared → Prop} (hd : s.heap.DictOf (mixKind prog w) d vs) (hm : (d == sysModules) = false) (few : vs.length ≤ 4)
    (h : ∀ (h' : Heap) (tk : Nat), h'.SetOf (mixKind prog w) s.heap.objs.size (fun k => vs.any fun p => decide (p.1 = k)) vs.length → (∀ q o, s.heap.get? q = some o → h'.get? q = some o) → Q (.ref s.heap.objs.size) { s with heap := h', toks := tk }) :
    wpAny (model prog w) A (call (.type "set") [.ref d]) Q E s := by
  obtain ⟨_, _, hmro⟩ := PySem.F.called_set.mro
  have hmade := PySem.F.called_set.made
  have hsub := PySem.F.called_set.sub
  have h1 := PySem.F.called_set.notType
  have h2 := PySem.F.called_set.canCreate
  have hct := PySem.F.typeCall_set_1 (.ref d)
  refine wpAny_call (codeAny_of_tree (wpAny_pure (a := _) ⟨Code.quiet_builtin _ (by decide +kernel), codeAny_builtin PySem.F.entry_type_call ?_⟩))
  rw [Around.under_plain (weight_type_call_type "set" [.ref d] []) rfl]
  repeat (any_goals (first | assumption | wp_step))
  refine codeAny_mono (code_set_new_1 (.ref d) (E := E) (Q₁ := fun v s1 => ∃ led, v = .ref s.heap.objs.size ∧ s1 = { s with heap := s.heap.push (setObj led) }) fun led => ⟨led, rfl, rfl⟩) fun r s1 hr => ?_
  match r, hr with
  | .ok (.ret v), hr =>
    obtain ⟨led, rfl, rfl⟩ := hr
    have hS : (s.heap.push (setObj led)).get? s.heap.objs.size = some (setObj led) := Heap.get?_push_size _ rfl
    have hT : Shared.TypeIs { s with heap := s.heap.push (setObj led) } (.ref s.heap.objs.size) "set" := ⟨_, hS, rfl⟩
    have hli := PySem.F.called_set.init.lookup
    have hbi := PySem.F.called_set.init.bind (.ref s.heap.objs.size)
    repeat (any_goals (first | assumption | wp_step))
    refine codeAny_mono (init_dk (E := E) hd hm few) fun r s2 hr => ?_
    match r, hr with
    | .ok (.ret v), hr =>
      obtain ⟨rfl, h', tk, rfl, ho, keep⟩ := hr
      repeat (any_goals (first | assumption | wp_step))
      exact h h' tk ho keep
    | .error e, hr => exact hr
    | .ok .next, hr => exact hr.elim
    | .ok .brk, hr => exact hr.elim
    | .ok .cont, hr => exact hr.elim
  | .error e, hr => exact hr
  | .ok .next, hr => exact hr.elim
  | .ok .brk, hr => exact hr.elim
  | .ok .cont, hr => exact hr.elim
section
variable {X : Cx}
/-- a set of texts as a set of keys -/
theorem setOf_mix {P : Program} {w : World} {h : Heap} {a : Addr} {S : Str → Bool} {n : Nat} (x : h.SetOf (PySem.strKind P w) a S n) : h.SetOf (mixKind P w) a (fun k => match k with | .inr z => S z | .inl _ => false) n := by
  obtain ⟨o, es, ep, t, ho, hx, hd, hel, hm, hb, hf, hn⟩ := x
  refine ⟨o, es, ep, t, ho, hx, hd, fun e he => ?_, fun k => ?_, hb, hf, hn⟩
  · obtain ⟨⟨z, hz, eh⟩, hs⟩ := hel e he
    exact ⟨⟨.inr z, hz, eh⟩, hs⟩
  · cases k with
    | inl i =>
      refine ⟨(fun h => nomatch h), fun ⟨e, he, hk⟩ => ?_⟩
      obtain ⟨⟨z, hz, _⟩, _⟩ := hel e he
      obtain ⟨u, eu⟩ := Value.isStrOf_shape hz
      rw [eu] at hk
      cases hk
    | inr y => exact hm y
def rSetD (K : PySem.W.Frag) (P : Program) (w : World) : List V → Hp → VK → Prop := fun xs H Q => (∃ (d : Addr) (kvs : List (Key × V)), xs = [.ref d] ∧ H d = some (.dK kvs) ∧ kvs.length ≤ 4 ∧ ∀ p, H p = none → Q (.ref p) (upd H p (SetK P w p (fun k => kvs.any fun q => decide (q.1 = k)) kvs.length))) ∨
  ∃ (l : Addr) (zs : List Str), xs = [.ref l] ∧ SqT K H l (zs.map V.str) ∧ zs.length < 60 ∧ zs.Nodup ∧ ∀ p, H p = none → Q (.ref p) (upd H p (SetK P w p (fun k => match k with | .inr z => decide (z ∈ zs) | .inl _ => false) zs.length))
theorem kv_any {kvs : List (Key × V)} {vs : List (Key × Value)} (r : KV kvs vs) (k : Key) : (vs.any fun p => decide (p.1 = k)) = (kvs.any fun p => decide (p.1 = k)) := by
  induction r with
  | nil => rfl
  | cons a b c => rw [List.any_cons, List.any_cons, c, a.1]
theorem kv_len {kvs : List (Key × V)} {vs : List (Key × Value)} (r : KV kvs vs) : vs.length = kvs.length := by
  induction r with
  | nil => rfl
  | cons a b c => rw [List.length_cons, List.length_cons, c]
theorem setDK (K : PySem.W.Frag) (hc : X.calm = true := by rfl) (hK : X.K = K := by rfl) : CallR X (.type "set") (rSetD K X.prog X.w) := by
  subst hK
  intro pins s σ H xs us Q I r h
  rcases h with ⟨d, kvs, rfl, hd, few, q⟩ | ⟨l, zs, rfl, ht, few, nd, q⟩
  · cases r with
    | cons r1 r2 =>
      cases r2
      cases r1
      obtain ⟨_, hm, vs, kv, hdo⟩ := I.hok _ _ hd
      have kl : vs.length = kvs.length := kv_len kv
      refine call_set_dk hdo hm (by omega) fun h' tk hS keep => ?_
      have hS' := setOf_ext hS (kv_any kv) kl
      exact ⟨.ref _, upd H s.heap.objs.size (SetK X.prog X.w s.heap.objs.size _ _), I.laid (t' := tk) keep (Nat.le_refl _) (setK_new hS'), rfl, q _ (I.hok.fresh (Nat.le_refl _))⟩
  · cases r with
    | cons r1 r2 =>
      cases r2
      cases r1
      obtain ⟨its, rv, pl, _⟩ := I.tuple ht
      refine call_set_tx (I.ok.hd hc) pl (by simpa using strsAre_of rv) (by unfold scanBound; omega) fun h' tk c hcn hS keep => ?_
      have ec : c = zs.length := hcn.2.mpr (by rw [List.take_length]; exact nd)
      have hS' := setOf_ext (setOf_mix hS) (S' := fun k => match k with | .inr z => decide (z ∈ zs) | .inl _ => false) (fun k => by
        cases k with
        | inl i => rfl
        | inr z =>
          show Has zs zs.length z = decide (z ∈ zs)
          rw [Bool.eq_iff_iff, has_iff, List.take_length, decide_eq_true_iff]) ec
      exact ⟨.ref _, upd H s.heap.objs.size (SetK X.prog X.w s.heap.objs.size _ _), I.laid (t' := tk) keep (Nat.le_refl _) (setK_new hS'), rfl, q _ (I.hok.fresh (Nat.le_refl _))⟩
def rNeSetK (P : Program) (w : World) : V → V → Hp → VK → Prop := fun x y H Q => ∃ (a b : Addr) (S S' : Key → Bool) (n n' : Nat), x = .ref a ∧ y = .ref b ∧ H a = some (SetK P w a S n) ∧ H b = some (SetK P w b S' n') ∧ ∀ r : Bool, (r = false ↔ n = n' ∧ ∀ k, S k = true → S' k = true) → Q (.bl r) H
theorem neSetK (hu0 : X.A.units + 64 < cLine) : OpR X (compareOp .NotEq) (rNeSetK X.prog X.w) := by
  have hu : X.A.units < cLine := by omega
  intro pins s σ H x y v u Q I rx ry h
  obtain ⟨a, b, S, S', n, n', rfl, rfl, ha, hb, q⟩ := h
  cases rx
  cases ry
  have ha := setK_get I ha
  have hb := setK_get I hb
  by_cases c : n = n' ∧ ∀ k, S k = true → S' k = true
  · exact neSets (r := false) ha hb hu ⟨fun _ => c, fun _ => rfl⟩ _ _ ⟨.bl false, H, I, rfl, q false ⟨fun _ => c, fun _ => rfl⟩⟩
  · exact neSets (r := true) ha hb hu ⟨(fun e => nomatch e), fun e => absurd e c⟩ _ _ ⟨.bl true, H, I, rfl, q true ⟨(fun e => nomatch e), fun e => absurd e c⟩⟩
end
end El

set_option Elab.async false
set_option linter.all false
set_option maxRecDepth 100000
set_option maxHeartbeats 4000000
/-! Own words: the head of a large law. The top is run by the kernel and looked at with a view that holds the law alone, all other names being loose: what the walk leans on is told by the objects of K, off the tree. Two runs (looks, objects); once for each answer of one row of the world. -/
namespace El
open PySem PySem.W PySem.Calls PyProof.Rows HeadRun
noncomputable abbrev topQ (p : Program) (M : Nat) (w : World) (os : OsState) : Option SharedT := endF (stepQ (denQ tabQ) p w) M p w os
abbrev topX (q : Program) (r : OpenRow) (s : Shared) : Bool := xlAt q [] s && recOk r.toRowW.records s
/-- the looks behind the top, at a world -/
def TopLooks (r : OpenRow) (q : Program) (loose : List PySem.Str) (M : Nat) (w : World) : Prop :=
  ∀ os : OsState, (topQ r.prog M w os).map (fun s => (looksF r.prog (boot_heap w.params) s.abs, seenQ q loose (importedModules r.prog.main.body) (topX q r) s.abs)) = some (true, openGood q loose)
/-- the objects behind the top, at a world -/
def TopObjs (r : OpenRow) (K : Params → Frag) (as : List Addr) (M : Nat) (w : World) : Prop :=
  ∀ os : OsState, (topQ r.prog M w os).map (fun s => as.map (getT s)) = some ((K w.params).map fun x => some x.2)
theorem top_flat {α β γ δ : Type} {o : Option α} {f : α → β} {g : α → γ} {h : α → δ} {b : β} {c : γ} {d : δ} (h1 : o.map (fun s => (f s, g s)) = some (b, c)) (h2 : o.map h = some d) : o.map (fun s => (f s, g s, h s)) = some (b, c, d) := by
  cases o with
  | none => cases h1
  | some a => cases h1; cases h2; rfl
theorem head_tiny {r : OpenRow} {q : Program} {loose : List PySem.Str} {K : Params → Frag} {as : List Addr} {ek : ∀ P, as = (K P).map (·.1)} {d : DefRec} {kwd : List (PySem.Str × PySem.Expr)} (M : Nat)
    (A : ∀ w, TopLooks r q loose M w) (C : ∀ w, TopObjs r K as M w) (e : opening r.prog = plainProg r.prog.main.scope.names) (f : ∀ s, fenceModules? r.prog s = some s)
    (hdef : defOf q r.name = some (d, kwd)) (hp : r.prog.theDef r.name = some (d.params, d.body, d.scope)) (hk : kwWritten? d.params.kwonlyargs d.params.kw_defaults = some kwd)
    (hwr : (!r.writes || r.records.isEmpty) = true) (k1 : r.wellSaid = true) (ok : (chainsOk q && opensWell r.prog && (frees r.toRowW && r.within.isEmpty)) = true) (hb : r.prog.bare) (hw : r.toRowW.promised)
    (call : WalkO q loose (XL q []) (Hook.says (kHook K as ek)) r.toRowW d kwd fun f vs => PySem.call f vs) : r.Holds := by
  have left : LeftO r.prog q loose (topX q r) (Hook.obs (kHook K as ek)) (Hook.val (kHook K as ek)) (M + 600) true :=
    left_oneK (M := M) e (Nat.ble_eq_true_of_le (by omega)) f (Nat.ble_eq_true_of_le (by omega)) fun w os => top_flat (A w os) (C w os)
  exact holds_open (r := r) (q := q) (loose := loose) (XP := XL q []) (YP := Hook.says (kHook K as ek)) (d := d) (kwd := kwd) left (Hook.of _) (Hook.keeps _) (fun s z => xl_of s (Bool.and_eq_true_iff.mp z).1) XL.keeps hdef hp hk (fun s z => recFacts_of (Bool.and_eq_true_iff.mp z).2) hwr k1 ok hb hw call
end El
namespace El
open PySem PySem.W
/-- the places of a fragment, told by a walk that needs no depth -/
noncomputable def placesAre : List Nat → Frag → Bool := List.rec (motive := fun _ => Frag → Bool) (fun l => List.rec (motive := fun _ => Bool) true (fun _ _ _ => false) l)
  (fun a _ ih l => List.rec (motive := fun _ => Bool) false (fun p r _ => Bool.rec (motive := fun _ => Bool) false (ih r) (Nat.beq a p.1)) l)
theorem places_ok : ∀ (as : List Nat) (K : Frag), placesAre as K = true → as = K.map (·.1)
  | [], [], _ => rfl
  | [], _ :: _, h => nomatch (show false = true from h)
  | _ :: _, [], h => nomatch (show false = true from h)
  | a :: as, p :: K, h => by
    have h1 : Bool.rec (motive := fun _ => Bool) false (placesAre as K) (Nat.beq a p.1) = true := h
    cases e : Nat.beq a p.1 with
    | false =>
      rw [e] at h1
      cases h1
    | true =>
      rw [e] at h1
      rw [List.map_cons, ← places_ok as K h1, Nat.eq_of_beq_eq_true e]
end El

set_option Elab.async false
set_option linter.all false
set_option maxRecDepth 100000
set_option maxHeartbeats 4000000
namespace K21
open PySem PySem.Spec PyProof.Rows L2 El NdefX
def topS (i : Nat) : Stmt := PySem.Challenge.pw_elseput_k21_rows_of_a_table.main.body.getD i (.Pass ⟨0, 0, 0, 0⟩)
abbrev s__law_state : Stmt := topS 11
theorem sc__law_state : FnScope ["_law_script"] ["_law_script"] (defScope s__law_state) := ⟨rfl, rfl, rfl, by decide +kernel, rfl, by decide +kernel, by decide +kernel⟩

abbrev s__law_draw : Stmt := topS 12
theorem sc__law_draw : FnScope ["_law_state_here", "_law_many", "_law_first", "_law_second", "_law_third", "_law_digit"] ["_law_state_here", "_law_many"] (defScope s__law_draw) := ⟨rfl, rfl, rfl, by decide +kernel, rfl, by decide +kernel, by decide +kernel⟩

abbrev s__law_pick : Stmt := topS 13
theorem sc__law_pick : FnScope ["_law_state_here", "_law_row"] ["_law_state_here", "_law_row"] (defScope s__law_pick) := ⟨rfl, rfl, rfl, by decide +kernel, rfl, by decide +kernel, by decide +kernel⟩

abbrev s__law_mixed : Stmt := topS 14
theorem sc__law_mixed : FnScope ["_law_state_here", "_law_row", "_law_rest", "_law_result", "_law_k", "_law_at"] ["_law_state_here", "_law_row"] (defScope s__law_mixed) := ⟨rfl, rfl, rfl, by decide +kernel, rfl, by decide +kernel, by decide +kernel⟩

abbrev s__law_number : Stmt := topS 15
theorem sc__law_number : FnScope ["_law_state_here", "_law_kind"] ["_law_state_here"] (defScope s__law_number) := ⟨rfl, rfl, rfl, by decide +kernel, rfl, by decide +kernel, by decide +kernel⟩

abbrev s__law_constant : Stmt := topS 16
theorem sc__law_constant : FnScope ["_law_state_here"] ["_law_state_here"] (defScope s__law_constant) := ⟨rfl, rfl, rfl, by decide +kernel, rfl, by decide +kernel, by decide +kernel⟩

abbrev s__law_values : Stmt := topS 17
theorem sc__law_values : FnScope ["_law_state_here", "_law_start", "_law_step"] ["_law_state_here"] (defScope s__law_values) := ⟨rfl, rfl, rfl, by decide +kernel, rfl, by decide +kernel, by decide +kernel⟩

abbrev s__law_names : Stmt := topS 18
theorem sc__law_names : FnScope ["_law_state_here", "_law_many", "_law_letters", "_law_style", "_law_shift", "_law_code", "_law_spot", "_law_base", "_law_k", "_law_reserved", "_law_result", "_law_word"] ["_law_state_here", "_law_many"] (defScope s__law_names) := ⟨rfl, rfl, rfl, by decide +kernel, rfl, by decide +kernel, by decide +kernel⟩

abbrev s__law_is_int : Stmt := topS 19
theorem sc__law_is_int : FnScope ["_law_thing"] ["_law_thing"] (defScope s__law_is_int) := ⟨rfl, rfl, rfl, by decide +kernel, rfl, by decide +kernel, by decide +kernel⟩

abbrev s__law_same : Stmt := topS 20
theorem sc__law_same : FnScope ["_law_actual", "_law_due", "_law_k", "_law_key"] ["_law_actual", "_law_due"] (defScope s__law_same) := ⟨rfl, rfl, rfl, by decide +kernel, rfl, by decide +kernel, by decide +kernel⟩

abbrev s__law_try_put : Stmt := topS 21
theorem sc__law_try_put : FnScope ["_law_table", "_law_word", "_law_places", "_law_content", "_law_handed", "_law_told", "e", "_law_kinds"] ["_law_table", "_law_word", "_law_places", "_law_content"] (defScope s__law_try_put) := ⟨rfl, rfl, rfl, by decide +kernel, rfl, by decide +kernel, by decide +kernel⟩

abbrev s__law_put_due : Stmt := topS 22
theorem sc__law_put_due : FnScope ["_law_keys", "_law_fields", "_law_rows", "_law_word", "_law_places", "_law_content", "_law_good", "_law_key", "_law_field", "_law_k"] ["_law_keys", "_law_fields", "_law_rows", "_law_word", "_law_places", "_law_content"] (defScope s__law_put_due) := ⟨rfl, rfl, rfl, by decide +kernel, rfl, by decide +kernel, by decide +kernel⟩

abbrev s__law_in_order : Stmt := topS 23
theorem sc__law_in_order : FnScope ["_law_names_here", "_law_source", "_law_result", "_law_name"] ["_law_names_here", "_law_source"] (defScope s__law_in_order) := ⟨rfl, rfl, rfl, by decide +kernel, rfl, by decide +kernel, by decide +kernel⟩

abbrev s__law_try_write : Stmt := topS 24
theorem sc__law_try_write : FnScope ["_law_table", "_law_row", "_law_field", "_law_number_here", "e", "_law_kinds"] ["_law_table", "_law_row", "_law_field", "_law_number_here"] (defScope s__law_try_write) := ⟨rfl, rfl, rfl, by decide +kernel, rfl, by decide +kernel, by decide +kernel⟩

abbrev s__law_content_told : Stmt := topS 25
theorem sc__law_content_told : FnScope ["_law_table", "_law_row", "e", "_law_kept_row", "_law_told"] ["_law_table", "_law_row"] (defScope s__law_content_told) := ⟨rfl, rfl, rfl, by decide +kernel, rfl, by decide +kernel, by decide +kernel⟩

abbrev s__law_find : Stmt := topS 26
theorem sc__law_find : FnScope ["_law_table", "_law_key", "_law_value", "e"] ["_law_table", "_law_key", "_law_value"] (defScope s__law_find) := ⟨rfl, rfl, rfl, by decide +kernel, rfl, by decide +kernel, by decide +kernel⟩

abbrev s__law_found : Stmt := topS 27
theorem sc__law_found : FnScope ["_law_rows", "_law_key", "_law_value", "_law_k"] ["_law_rows", "_law_key", "_law_value"] (defScope s__law_found) := ⟨rfl, rfl, rfl, by decide +kernel, rfl, by decide +kernel, by decide +kernel⟩

abbrev s__law_is_table : Stmt := topS 28
theorem sc__law_is_table : FnScope ["_law_table", "_law_keys", "_law_rows", "_law_values_here", "_law_others", "_law_told", "_law_k", "_law_row", "_law_key", "_law_value"] ["_law_table", "_law_keys", "_law_rows", "_law_values_here", "_law_others"] (defScope s__law_is_table) := ⟨rfl, rfl, rfl, by decide +kernel, rfl, by decide +kernel, by decide +kernel⟩

abbrev s__law_new_row : Stmt := topS 29
theorem sc__law_new_row : FnScope ["_law_state_here", "_law_keys", "_law_fields", "_law_values_here", "_law_others", "_law_k", "_law_places", "_law_key", "_law_spoil", "_law_content", "_law_field", "_law_choice"] ["_law_state_here", "_law_keys", "_law_fields", "_law_values_here", "_law_others", "_law_k"] (defScope s__law_new_row) := ⟨rfl, rfl, rfl, by decide +kernel, rfl, by decide +kernel, by decide +kernel⟩

abbrev s__law_puts : Stmt := topS 30
theorem sc__law_puts : FnScope ["_law_table", "_law_keys", "_law_fields", "_law_rows", "_law_word", "_law_pair", "_law_due"] ["_law_table", "_law_keys", "_law_fields", "_law_rows", "_law_word", "_law_pair"] (defScope s__law_puts) := ⟨rfl, rfl, rfl, by decide +kernel, rfl, by decide +kernel, by decide +kernel⟩

abbrev s__law_writes : Stmt := topS 31
theorem sc__law_writes : FnScope ["_law_table", "_law_fields", "_law_rows", "_law_row", "_law_field", "_law_number_here", "_law_due", "_law_content"] ["_law_table", "_law_fields", "_law_rows", "_law_row", "_law_field", "_law_number_here"] (defScope s__law_writes) := ⟨rfl, rfl, rfl, by decide +kernel, rfl, by decide +kernel, by decide +kernel⟩

abbrev s__law_twins_apart : Stmt := topS 32
theorem sc__law_twins_apart : FnScope ["_law_table", "_law_keys", "_law_fields", "_law_rows", "_law_values_here", "_law_others", "_law_twin", "_law_twin_rows", "_law_places", "_law_content", "_law_field", "_law_word"] ["_law_table", "_law_keys", "_law_fields", "_law_rows", "_law_values_here", "_law_others"] (defScope s__law_twins_apart) := ⟨rfl, rfl, rfl, by decide +kernel, rfl, by decide +kernel, by decide +kernel⟩

abbrev s_law : Stmt := topS 33
theorem sc_law : FnScope ["_law_script", "_law_state_here", "_law_names_here", "_law_keys", "_law_fields", "_law_others", "_law_values_here", "_law_heads", "_law_table", "_law_rows", "_law_olds", "_law_k", "_law_old", "_law_kind", "_law_word", "_law_pair", "_law_row", "_law_number_here"] ["_law_script"] (defScope s_law) := ⟨rfl, rfl, rfl, by decide +kernel, rfl, by decide +kernel, by decide +kernel⟩

abbrev s_Table___init__ : Stmt := mthS (topS 9) 0
theorem sc_Table___init__ : FnScope ["self", "key_names", "field_names"] ["self", "key_names", "field_names"] (defScope s_Table___init__) := ⟨rfl, rfl, rfl, by decide +kernel, rfl, by decide +kernel, by decide +kernel⟩

abbrev s_Table_put : Stmt := mthS (topS 9) 1
theorem sc_Table_put : FnScope ["self", "places", "content", "key", "row"] ["self", "places", "content"] (defScope s_Table_put) := ⟨rfl, rfl, rfl, by decide +kernel, rfl, by decide +kernel, by decide +kernel⟩

abbrev s_Table_enter : Stmt := mthS (topS 9) 2
theorem sc_Table_enter : FnScope ["self", "places", "content"] ["self", "places", "content"] (defScope s_Table_enter) := ⟨rfl, rfl, rfl, by decide +kernel, rfl, by decide +kernel, by decide +kernel⟩

abbrev s_Table_content_of : Stmt := mthS (topS 9) 3
theorem sc_Table_content_of : FnScope ["self", "row"] ["self", "row"] (defScope s_Table_content_of) := ⟨rfl, rfl, rfl, by decide +kernel, rfl, by decide +kernel, by decide +kernel⟩

abbrev s_Table_rows : Stmt := mthS (topS 9) 4
theorem sc_Table_rows : FnScope ["self", "places", "content"] ["self"] (defScope s_Table_rows) := ⟨rfl, rfl, rfl, by decide +kernel, rfl, by decide +kernel, by decide +kernel⟩

abbrev s_Table_write : Stmt := mthS (topS 9) 5
theorem sc_Table_write : FnScope ["self", "row", "field", "number", "content"] ["self", "row", "field", "number"] (defScope s_Table_write) := ⟨rfl, rfl, rfl, by decide +kernel, rfl, by decide +kernel, by decide +kernel⟩

abbrev s_Table_twin : Stmt := mthS (topS 9) 6
theorem sc_Table_twin : FnScope ["self", "other", "places", "content"] ["self"] (defScope s_Table_twin) := ⟨rfl, rfl, rfl, by decide +kernel, rfl, by decide +kernel, by decide +kernel⟩

abbrev s_Table___getitem__ : Stmt := mthS (topS 9) 7
theorem sc_Table___getitem__ : FnScope ["self", "place", "key", "value"] ["self", "place"] (defScope s_Table___getitem__) := ⟨rfl, rfl, rfl, by decide +kernel, rfl, by decide +kernel, by decide +kernel⟩

abbrev s_Table___len__ : Stmt := mthS (topS 9) 8
theorem sc_Table___len__ : FnScope ["self"] ["self"] (defScope s_Table___len__) := ⟨rfl, rfl, rfl, by decide +kernel, rfl, by decide +kernel, by decide +kernel⟩

abbrev s_Table__check_new : Stmt := mthS (topS 9) 10
theorem sc_Table__check_new : FnScope ["self", "places", "content", "key"] ["self", "places", "content"] (defScope s_Table__check_new) := ⟨rfl, rfl, rfl, by decide +kernel, rfl, by decide +kernel, by decide +kernel⟩

abbrev s_Table__check_row : Stmt := mthS (topS 9) 11
theorem sc_Table__check_row : FnScope ["self", "row"] ["self", "row"] (defScope s_Table__check_row) := ⟨rfl, rfl, rfl, by decide +kernel, rfl, by decide +kernel, by decide +kernel⟩

abbrev s_Table__add : Stmt := mthS (topS 9) 12
theorem sc_Table__add : FnScope ["self", "places", "content", "number", "own_places", "own_content", "key", "value", "field"] ["self", "places", "content"] (defScope s_Table__add) := ⟨rfl, rfl, rfl, by decide +kernel, rfl, by decide +kernel, by decide +kernel⟩

abbrev s_UnknownName : Stmt := mthS (topS 2) 0
theorem sc_UnknownName : NdefX.NScope ["self", "name", "__class__"] ["self", "name"] ["__class__"] (defScope s_UnknownName) := NdefX.nscope_by (by decide +kernel)
abbrev s_BadRow : Stmt := mthS (topS 5) 0
theorem sc_BadRow : NdefX.NScope ["self", "__class__"] ["self"] ["__class__"] (defScope s_BadRow) := NdefX.nscope_by (by decide +kernel)
abbrev s_NoRow : Stmt := mthS (topS 6) 0
theorem sc_NoRow : NdefX.NScope ["self", "row", "__class__"] ["self", "row"] ["__class__"] (defScope s_NoRow) := NdefX.nscope_by (by decide +kernel)
abbrev s_Taken : Stmt := mthS (topS 7) 0
theorem sc_Taken : NdefX.NScope ["self", "key", "row", "__class__"] ["self", "key", "row"] ["__class__"] (defScope s_Taken) := NdefX.nscope_by (by decide +kernel)
abbrev s_UnknownKey : Stmt := mthS (topS 2) 0
theorem sc_UnknownKey : NdefX.NScope ["self", "name", "__class__"] ["self", "name"] ["__class__"] (defScope s_UnknownKey) := NdefX.nscope_by (by decide +kernel)
abbrev s_UnknownField : Stmt := mthS (topS 2) 0
theorem sc_UnknownField : NdefX.NScope ["self", "name", "__class__"] ["self", "name"] ["__class__"] (defScope s_UnknownField) := NdefX.nscope_by (by decide +kernel)
section
variable {P : Program} {w : World} {K : PySem.W.Frag} {mg : Str → Option Value} {base : Heap}
variable {a_BadRow a_ElseputError a_NoRow a_Table a_Taken a_UnknownField a_UnknownKey a_UnknownName : Addr}
structure Gs (K : PySem.W.Frag) (mg : Str → Option Value) (a_BadRow a_ElseputError a_NoRow a_Table a_Taken a_UnknownField a_UnknownKey a_UnknownName : Addr) : Prop where
  z_ValueError : mg "ValueError" = none
  z_any : mg "any" = none
  z_bool : mg "bool" = none
  z_dict : mg "dict" = none
  z_int : mg "int" = none
  z_isinstance : mg "isinstance" = none
  z_len : mg "len" = none
  z_list : mg "list" = none
  z_range : mg "range" = none
  z_set : mg "set" = none
  z_str : mg "str" = none
  z_super : mg "super" = none
  z_tuple : mg "tuple" = none
  g_BadRow : mg "BadRow" = some (.ref a_BadRow)
  n_BadRow : PySem.W.nsIn K mainGlobals "BadRow" = some (some (.ref a_BadRow))
  x_BadRow : ExV K a_BadRow []
  g_ElseputError : mg "ElseputError" = some (.ref a_ElseputError)
  n_ElseputError : PySem.W.nsIn K mainGlobals "ElseputError" = some (some (.ref a_ElseputError))
  g_NoRow : mg "NoRow" = some (.ref a_NoRow)
  n_NoRow : PySem.W.nsIn K mainGlobals "NoRow" = some (some (.ref a_NoRow))
  x_NoRow : ExV K a_NoRow ["row"]
  g_Table : mg "Table" = some (.ref a_Table)
  n_Table : PySem.W.nsIn K mainGlobals "Table" = some (some (.ref a_Table))
  g_Taken : mg "Taken" = some (.ref a_Taken)
  n_Taken : PySem.W.nsIn K mainGlobals "Taken" = some (some (.ref a_Taken))
  x_Taken : ExV K a_Taken ["key", "row"]
  g_UnknownField : mg "UnknownField" = some (.ref a_UnknownField)
  n_UnknownField : PySem.W.nsIn K mainGlobals "UnknownField" = some (some (.ref a_UnknownField))
  x_UnknownField : ExV K a_UnknownField ["name"]
  g_UnknownKey : mg "UnknownKey" = some (.ref a_UnknownKey)
  n_UnknownKey : PySem.W.nsIn K mainGlobals "UnknownKey" = some (some (.ref a_UnknownKey))
  x_UnknownKey : ExV K a_UnknownKey ["name"]
  g_UnknownName : mg "UnknownName" = some (.ref a_UnknownName)
  n_UnknownName : PySem.W.nsIn K mainGlobals "UnknownName" = some (some (.ref a_UnknownName))
  x_UnknownName : ExV K a_UnknownName ["name"]
  cl_Table : Cls K a_Table
  na_Table__first_rows : NoAttr K a_Table "_first_rows"
  na_Table__rows : NoAttr K a_Table "_rows"
  na_Table_field_names : NoAttr K a_Table "field_names"
  na_Table_key_names : NoAttr K a_Table "key_names"
  rd_Table : ClX.CRead K a_Table (.type "type")
  m_BadRow_ElseputError : PySem.W.exmOne K (.ref a_BadRow) (.ref a_ElseputError) = some true
  m_NoRow_ElseputError : PySem.W.exmOne K (.ref a_NoRow) (.ref a_ElseputError) = some true
  m_Taken_ElseputError : PySem.W.exmOne K (.ref a_Taken) (.ref a_ElseputError) = some true
  m_UnknownField_ElseputError : PySem.W.exmOne K (.ref a_UnknownField) (.ref a_ElseputError) = some true
  m_UnknownKey_ElseputError : PySem.W.exmOne K (.ref a_UnknownKey) (.ref a_ElseputError) = some true
  k_BadRow_BadRow : PySem.W.kitOne K (.ref a_BadRow) (.ref a_BadRow) = some true
  k_BadRow_Taken : PySem.W.kitOne K (.ref a_BadRow) (.ref a_Taken) = some false
  k_BadRow_ValueError : PySem.W.kitOne K (.ref a_BadRow) (.type "ValueError") = some true
  k_BadRow_NoRow : PySem.W.kitOne K (.ref a_BadRow) (.ref a_NoRow) = some false
  k_BadRow_UnknownField : PySem.W.kitOne K (.ref a_BadRow) (.ref a_UnknownField) = some false
  k_BadRow_UnknownKey : PySem.W.kitOne K (.ref a_BadRow) (.ref a_UnknownKey) = some false
  k_BadRow_UnknownName : PySem.W.kitOne K (.ref a_BadRow) (.ref a_UnknownName) = some false
  k_NoRow_BadRow : PySem.W.kitOne K (.ref a_NoRow) (.ref a_BadRow) = some false
  k_NoRow_Taken : PySem.W.kitOne K (.ref a_NoRow) (.ref a_Taken) = some false
  k_NoRow_ValueError : PySem.W.kitOne K (.ref a_NoRow) (.type "ValueError") = some true
  k_NoRow_NoRow : PySem.W.kitOne K (.ref a_NoRow) (.ref a_NoRow) = some true
  k_NoRow_UnknownField : PySem.W.kitOne K (.ref a_NoRow) (.ref a_UnknownField) = some false
  k_NoRow_UnknownKey : PySem.W.kitOne K (.ref a_NoRow) (.ref a_UnknownKey) = some false
  k_NoRow_UnknownName : PySem.W.kitOne K (.ref a_NoRow) (.ref a_UnknownName) = some false
  k_Taken_BadRow : PySem.W.kitOne K (.ref a_Taken) (.ref a_BadRow) = some false
  k_Taken_Taken : PySem.W.kitOne K (.ref a_Taken) (.ref a_Taken) = some true
  k_Taken_ValueError : PySem.W.kitOne K (.ref a_Taken) (.type "ValueError") = some true
  k_Taken_NoRow : PySem.W.kitOne K (.ref a_Taken) (.ref a_NoRow) = some false
  k_Taken_UnknownField : PySem.W.kitOne K (.ref a_Taken) (.ref a_UnknownField) = some false
  k_Taken_UnknownKey : PySem.W.kitOne K (.ref a_Taken) (.ref a_UnknownKey) = some false
  k_Taken_UnknownName : PySem.W.kitOne K (.ref a_Taken) (.ref a_UnknownName) = some false
  k_UnknownField_BadRow : PySem.W.kitOne K (.ref a_UnknownField) (.ref a_BadRow) = some false
  k_UnknownField_Taken : PySem.W.kitOne K (.ref a_UnknownField) (.ref a_Taken) = some false
  k_UnknownField_ValueError : PySem.W.kitOne K (.ref a_UnknownField) (.type "ValueError") = some true
  k_UnknownField_NoRow : PySem.W.kitOne K (.ref a_UnknownField) (.ref a_NoRow) = some false
  k_UnknownField_UnknownField : PySem.W.kitOne K (.ref a_UnknownField) (.ref a_UnknownField) = some true
  k_UnknownField_UnknownKey : PySem.W.kitOne K (.ref a_UnknownField) (.ref a_UnknownKey) = some false
  k_UnknownField_UnknownName : PySem.W.kitOne K (.ref a_UnknownField) (.ref a_UnknownName) = some true
  k_UnknownKey_BadRow : PySem.W.kitOne K (.ref a_UnknownKey) (.ref a_BadRow) = some false
  k_UnknownKey_Taken : PySem.W.kitOne K (.ref a_UnknownKey) (.ref a_Taken) = some false
  k_UnknownKey_ValueError : PySem.W.kitOne K (.ref a_UnknownKey) (.type "ValueError") = some true
  k_UnknownKey_NoRow : PySem.W.kitOne K (.ref a_UnknownKey) (.ref a_NoRow) = some false
  k_UnknownKey_UnknownField : PySem.W.kitOne K (.ref a_UnknownKey) (.ref a_UnknownField) = some false
  k_UnknownKey_UnknownKey : PySem.W.kitOne K (.ref a_UnknownKey) (.ref a_UnknownKey) = some true
  k_UnknownKey_UnknownName : PySem.W.kitOne K (.ref a_UnknownKey) (.ref a_UnknownName) = some true
/-! ### the script's state -/
def stv (scr : Addr) (i v m c : Int) : List V := [.ref scr, .int i, .int v, .int m, .int c]
def DrAt (H : Hp) (st scr : Addr) : Prop := ∃ (ns : List Int) (i v m c : Int), H st = some (.lst (stv scr i v m c)) ∧ H scr = some (.lst (ns.map V.int)) ∧ ns.length ≤ 63 ∧ 0 ≤ i
theorem DrAt.ne {H : Hp} {st scr : Addr} {ns : List Int} {i v m c : Int} (h : H st = some (.lst (stv scr i v m c))) (h2 : H scr = some (.lst (ns.map V.int))) : scr ≠ st := by
  refine ne_of h2 h fun e => ?_
  injection e with e
  cases ns with
  | nil => simp [stv] at e
  | cons a r => simp [stv] at e
theorem DrAt.upd {H : Hp} {st scr : Addr} {ns : List Int} {i v m c i' v' m' c' : Int} (h : H st = some (.lst (stv scr i v m c))) (h2 : H scr = some (.lst (ns.map V.int))) (hl : ns.length ≤ 63) (h0 : 0 ≤ i') : DrAt (upd H st (.lst (stv scr i' v' m' c'))) st scr :=
  ⟨ns, i', v', m', c', upd_same, by rw [upd_ne (DrAt.ne h h2)]; exact h2, hl, h0⟩
theorem upd_id {H : Hp} {a : Addr} {o : HO} (h : H a = some o) : upd H a o = H := by
  funext b
  unfold L2.upd
  split
  · rename_i e; rw [e, h]
  · rfl
theorem DrAt.lst {H : Hp} {st scr : Addr} (h : DrAt H st scr) : ∃ l, H st = some (.lst l) := by
  obtain ⟨ns, i, v, m, c, h, _⟩ := h
  exact ⟨_, h⟩
theorem DrAt.new {H H' : Hp} {st scr : Addr} (h : DrAt H st scr) (s : Same H H') : DrAt H' st scr := by
  obtain ⟨ns, i, v, m, c, h1, h2, h3⟩ := h
  exact ⟨ns, i, v, m, c, s _ _ h1, s _ _ h2, h3⟩
theorem DrAt.at {H : Hp} {st scr p : Addr} {o : HO} (h : DrAt H st scr) (h1 : p ≠ st) (h2 : p ≠ scr) : DrAt (L2.upd H p o) st scr := by
  obtain ⟨ns, i, v, m, c, e1, e2, h3⟩ := h
  exact ⟨ns, i, v, m, c, by rw [upd_ne h1.symm]; exact e1, by rw [upd_ne h2.symm]; exact e2, h3⟩
theorem same_new {H : Hp} {p : Addr} {o : HO} (h : H p = none) : Same H (upd H p o) := fun b u q => by rw [upd_ne (ne_of_none q h)]; exact q
theorem free_new {H : Hp} {p q : Addr} {o : HO} (h : upd H p o q = none) : H q = none := by
  unfold L2.upd at h
  split at h
  · cases h
  · exact h
theorem new_ne {H : Hp} {p q : Addr} {o : HO} (h : upd H p o q = none) : q ≠ p := fun e => by rw [e, upd_same] at h; cases h
theorem len_add (a b : Str) : (a ++ b).length = a.length + b.length := by
  show (a.cps ++ b.cps).size = _
  rw [Array.size_append]
  rfl
theorem cps_add (a b : Str) : (a ++ b).cps.toList = a.cps.toList ++ b.cps.toList := by
  show (a.cps ++ b.cps).toList = _
  rw [Array.toList_append]
theorem len_cps (z : Str) : z.cps.toList.length = z.length := Array.length_toList
theorem line_of {n : Nat} (h : n ≤ 100000) : n ≤ sizeLine := Nat.le_trans h (by decide)
theorem line_lt {n : Nat} (h : n < 100000) : n < sizeLine := Nat.lt_of_lt_of_le h (by decide)
/-- all that stood stands, st's own numbers aside -/
def Bt (st : Addr) (H H' : Hp) : Prop := ∀ b o, b ≠ st → H b = some o → H' b = some o
theorem Bt.refl (st : Addr) (H : Hp) : Bt st H H := fun _ _ _ h => h
theorem Bt.trans {st : Addr} {H H1 H2 : Hp} (a : Bt st H H1) (b : Bt st H1 H2) : Bt st H H2 := fun c o n h => b c o n (a c o n h)
theorem Bt.same {st : Addr} {H H' : Hp} (s : Same H H') : Bt st H H' := fun b o _ h => s b o h
theorem Bt.st {st : Addr} {H : Hp} {o : HO} : Bt st H (upd H st o) := fun b u n h => by rw [upd_ne n]; exact h
theorem Bt.free {st : Addr} {H H' : Hp} (s : Bt st H H') {l : Addr} (n : l ≠ st) (h : H' l = none) : H l = none := by
  cases q : H l with
  | none => rfl
  | some o => rw [s l o n q] at h; cases h
theorem DrAt.ne_new {H : Hp} {st scr p : Addr} (h : DrAt H st scr) (n : H p = none) : p ≠ st := by
  obtain ⟨l, e⟩ := h.lst
  exact (ne_of_none e n).symm

theorem DrAt.ne_scr {H : Hp} {st scr p : Addr} (h : DrAt H st scr) (n : H p = none) : p ≠ scr := by
  obtain ⟨ns, i, v, m, c, e1, e2, h3⟩ := h
  exact (ne_of_none e2 n).symm

end
section
variable {P : Program} {w : World} {K : PySem.W.Frag} {mg : Str → Option Value} {base : Heap}
variable {a_BadRow a_ElseputError a_NoRow a_Table a_Taken a_UnknownField a_UnknownKey a_UnknownName : Addr}
theorem inV_str {z : Str} : ∀ {xs : List Str}, inV (.str z) (xs.map V.str) = decide (z ∈ xs)
  | [] => rfl
  | a :: r => by
    have ih := inV_str (z := z) (xs := r)
    unfold inV at ih ⊢
    rw [List.map_cons, List.any_cons, ih]
    have : eqV (.str a) (.str z) = decide (z = a) := by
      show (a == z) = _
      rw [Bool.eq_iff_iff, beq_iff_eq, decide_eq_true_iff, eq_comm]
    rw [this, Bool.eq_iff_iff, Bool.or_eq_true, decide_eq_true_iff, decide_eq_true_iff, decide_eq_true_iff, List.mem_cons]
theorem flat_strs {xs : List Str} : (xs.map V.str).all flatV = true := by
  rw [List.all_map]
  exact List.all_eq_true.mpr fun _ _ => rfl
def sp__law_draw (K : PySem.W.Frag) : Sp := fun vs H Q _ => ∃ (st scr : Addr) (many : Int), vs = [.ref st, .int many] ∧ DrAt H st scr ∧ 0 < many ∧ many.natAbs < 2 ^ 200 ∧
  ∀ (r : Int) (l : List V), 0 ≤ r → r < many → DrAt (upd H st (.lst l)) st scr → Q (.int r) (upd H st (.lst l))
theorem len__law_draw {vs : List V} {H : Hp} {Q : VK} {E : XK} (h : sp__law_draw K vs H Q E) : vs.length = 2 := by
  obtain ⟨_, _, _, rfl, _⟩ := h
  rfl
theorem ok__law_draw {f : Addr} {fd : FuncData} (F : Fun K "_law_draw" "_law_draw" s__law_draw f fd) (T : Gs K mg a_BadRow a_ElseputError a_NoRow a_Table a_Taken a_UnknownField a_UnknownKey a_UnknownName) : FnOk P w K mg base CX0 1 f fd ["_law_state_here", "_law_many"] (sp__law_draw K) := by
  refine F.ok sc__law_draw (fun vs H Q E h => len__law_draw h) (fun cdv A outer s H vs Q E hr h => ?_)
  obtain ⟨st, scr, many, rfl, ⟨ns, i, v, m, c, hst, hscr, hl, h0⟩, hm0, hm1, q⟩ := h
  have hne := DrAt.ne hst hscr
  refine ⟨_, (Evl.pss_cut (ps_if (pt_c (eqK K hr.units) (e_x K (v_ 0) pe_int) pe_int) (pss_cons (ps_if (pt_c op_geM (e_x K (v_ 0) pe_int) (pe_callB (lenK K) (by rfl) T.z_len PySem.boot_len (pa_cons (e_x K (v_ 0) pe_int) pa_nil))) (pss_one (ps_ret pe_int)) pss_nil) (pss_cons (ps_asg (pe_callTy call_intM (by rfl) T.z_int (by decide +kernel) (pa_cons (e_x K (e_x K (v_ 0) pe_int) (e_x K (v_ 0) pe_int)) pa_nil)) (pg_sub (v_ 0) pe_int set_list)) (pss_cons (ps_asg (pe_op (addK K) (e_x K (v_ 0) pe_int) pe_int) (pg_sub (v_ 0) pe_int set_list)) (pss_cons (ps_asg pe_int (pg_sub (v_ 0) pe_int set_list)) (pss_cons (ps_asg pe_int (pg_sub (v_ 0) pe_int set_list)) (pss_one (ps_if (pt_c op_ltM (e_x K (v_ 0) pe_int) (pe_op op_powM pe_int pe_int)) (pss_one (ps_asg pe_int (pg_sub (v_ 0) pe_int set_list))) pss_nil))))))) pss_nil) (pss_cons (ps_asg (pe_op (addK K) (e_x K (v_ 0) pe_int) pe_int) (pg_sub (v_ 0) pe_int set_list)) (pss_cons (ps_if (pt_c (eqK K hr.units) (e_x K (v_ 0) pe_int) pe_int) (pss_cons (ps_set (i := 5) sc__law_draw.nd rfl (.inl rfl) (pe_op op_modM (pe_callTy call_intM (by rfl) T.z_int (by decide +kernel) (pa_cons (e_x K (v_ 0) pe_int) pa_nil)) (v_ 1))) (pss_cons (ps_asg (pe_op op_divM (pe_callTy call_intM (by rfl) T.z_int (by decide +kernel) (pa_cons (e_x K (v_ 0) pe_int) pa_nil)) (v_ 1)) (pg_sub (v_ 0) pe_int set_list)) (Evl.pss_cut (ps_if (PW.pt (pw_or (pt_c (eqK K hr.units) (e_x K (v_ 0) pe_int) pe_int) (pw_or1 (pt_c op_geM (e_x K (v_ 0) pe_int) pe_int)))) (pss_one (ps_asg pe_int (pg_sub (v_ 0) pe_int set_list))) pss_nil) (pss_one (ps_ret (v_ 5)))))) pss_nil) (pss_cons (ps_set (i := 2) sc__law_draw.nd rfl (.inl rfl) (pe_op op_modM (pe_callTy call_intM (by rfl) T.z_int (by decide +kernel) (pa_cons (pe_op (addK K) (pe_op op_mulSM (e_x K (v_ 0) pe_int) pe_int) (pe_op op_mulSM (e_x K (v_ 0) pe_int) pe_int)) pa_nil)) pe_int)) (pss_cons (ps_set (i := 3) sc__law_draw.nd rfl (.inl rfl) (pe_op op_modM (pe_callTy call_intM (by rfl) T.z_int (by decide +kernel) (pa_cons (pe_op (addK K) (pe_op (addK K) (pe_op op_mulSM (v_ 2) (v_ 2)) (pe_op op_mulSM (e_x K (v_ 0) pe_int) pe_int)) pe_int) pa_nil)) pe_int)) (Evl.pss_cut (ps_if (pt_c op_geM (e_x K (v_ 0) pe_int) pe_int) (pss_one (ps_asg pe_int (pg_sub (v_ 0) pe_int set_list))) pss_nil) (pss_cons (ps_set (i := 4) sc__law_draw.nd rfl (.inl rfl) (pe_op op_modM (pe_callTy call_intM (by rfl) T.z_int (by decide +kernel) (pa_cons (pe_op (addK K) (pe_op op_mulSM (v_ 3) pe_int) (v_ 2)) pa_nil)) pe_int)) (pss_one (ps_ret (pe_op op_modM (pe_callTy call_intM (by rfl) T.z_int (by decide +kernel) (pa_cons (v_ 4) pa_nil)) (v_ 1))))))))))), ?_⟩
  refine ⟨fun σ' H' => σ' = [some (.ref st), some (.int many), none, none, none, none] ∧ ∃ i v m c, H' = upd H st (.lst (stv scr i v m c)) ∧ 0 ≤ i, ?_, ?_⟩
  · refine ⟨_, .inl (SqL.of hst), _, rfl, ?_⟩
    refine ite2 (fun e => ?_) (fun e => ?_)
    · refine ⟨_, .inl (SqL.of hst), _, rfl, _, .inl (SqL.of hst), _, rfl, .inl ⟨_, .inl (SqL.of hscr), ?_⟩⟩
      refine ite2 (fun e1 => ?_) (fun e1 => ?_)
      · have z := q 0 (stv scr i v m c) (by omega) hm0 (DrAt.upd hst hscr hl h0)
        rw [upd_id hst] at z
        exact z
      · have e2 := of_decide_eq_false (Bool.eq_false_iff.mpr e1)
        rw [List.length_map] at e2
        obtain ⟨z, hz⟩ : ∃ z, atI (ns.map V.int) i = some (.int z) := by
          have hi : i.toNat < ns.length := by omega
          refine ⟨ns[i.toNat], ?_⟩
          have hq : atI (ns.map V.int) ((i.toNat : Nat) : Int) = some (.int ns[i.toNat]) := atI_nat (by rw [List.getElem?_map, List.getElem?_eq_getElem hi]; rfl)
          rwa [show ((i.toNat : Nat) : Int) = i by omega] at hq
        refine ⟨_, .inl (SqL.of hst), _, rfl, _, .inl (SqL.of hst), _, rfl, _, .inl (SqL.of hscr), _, hz, ?_⟩
        refine ⟨_, _, _, 2, rfl, rfl, hst, rfl, ?_⟩
        refine ⟨_, .inl (SqL.of upd_same), _, rfl, ?_⟩
        refine ⟨_, _, _, 1, rfl, rfl, upd_same, rfl, ?_⟩
        refine ⟨_, _, _, 3, rfl, rfl, upd_same, rfl, ?_⟩
        refine ⟨_, _, _, 4, rfl, rfl, upd_same, rfl, ?_⟩
        refine ⟨_, .inl (SqL.of upd_same), _, rfl, (by unfold CPow; decide), ?_⟩
        refine ite2 (fun e3 => ?_) (fun e3 => ?_)
        · refine ⟨_, _, _, 3, rfl, rfl, upd_same, rfl, rfl, i + 1, z, 2, 0, ?_, by omega⟩
          rw [upd_upd, upd_upd, upd_upd, upd_upd]
          rfl
        · refine ⟨rfl, i + 1, z, 1, 0, ?_, by omega⟩
          rw [upd_upd, upd_upd, upd_upd]
          rfl
    · exact ⟨rfl, i, v, m, c, (upd_id hst).symm, h0⟩
  · rintro σ' H' ⟨rfl, i, v, m, c, rfl, h0⟩
    have hscr' : ∀ o, upd H st o scr = some (.lst (ns.map V.int)) := fun o => by rw [upd_ne hne]; exact hscr
    refine ⟨_, .inl (SqL.of upd_same), _, rfl, ?_⟩
    refine ⟨_, _, _, 4, rfl, rfl, upd_same, rfl, ?_⟩
    rw [upd_upd]
    refine ⟨_, .inl (SqL.of upd_same), _, rfl, ?_⟩
    refine ite2 (fun e => ?_) (fun e => ?_)
    · refine ⟨_, .inl (SqL.of upd_same), _, rfl, hm0, ?_⟩
      refine ⟨_, .inl (SqL.of upd_same), _, rfl, .inr (wide_div hm0 (b := 200) hm1 (by decide) (by decide)), ?_⟩
      refine ⟨_, _, _, 2, rfl, rfl, upd_same, rfl, ?_⟩
      rw [upd_upd]
      have fin : ∀ m' : Int, Q (.int (v % many)) (upd H st (.lst (stv scr i (v / many) m' (c + 1)))) := fun m' => q _ _ (Int.emod_nonneg _ (by omega)) (Int.emod_lt_of_pos _ hm0) (DrAt.upd hst hscr hl h0)
      refine ⟨fun σ' H' => σ' = [some (.ref st), some (.int many), none, none, none, some (.int (v % many))] ∧ ∃ m', H' = upd H st (.lst (stv scr i (v / many) m' (c + 1))), ?_, ?_⟩
      · refine ⟨_, .inl (SqL.of upd_same), _, rfl, ?_⟩
        refine ite2 (fun e1 => ?_) (fun e1 => ?_)
        · refine ⟨_, _, _, 3, rfl, rfl, upd_same, rfl, rfl, 0, ?_⟩
          rw [upd_upd]
          rfl
        · refine ⟨_, .inl (SqL.of upd_same), _, rfl, ?_⟩
          refine ite2 (fun e1 => ?_) (fun e1 => ?_)
          · refine ⟨_, _, _, 3, rfl, rfl, upd_same, rfl, rfl, 0, ?_⟩
            rw [upd_upd]
            rfl
          · exact ⟨rfl, m, rfl⟩
      · rintro σ' H' ⟨rfl, m', rfl⟩
        exact fin m'
    · refine ⟨_, .inl (SqL.of upd_same), _, rfl, .inl (.inr ⟨by decide, by decide⟩), ?_⟩
      refine ⟨_, .inl (SqL.of upd_same), _, rfl, .inl (.inr ⟨by decide, by decide⟩), (by decide), ?_⟩
      have f0 := Int.emod_nonneg (v * 48271 + (c + 1) * 69621) (by decide : (2147483647 : Int) ≠ 0)
      have f1 := Int.emod_lt_of_pos (v * 48271 + (c + 1) * 69621) (by decide : (0 : Int) < 2147483647)
      refine ⟨.inl (.inl ⟨by omega, by omega⟩), ?_⟩
      refine ⟨_, .inl (SqL.of upd_same), _, rfl, .inl (.inr ⟨by decide, by decide⟩), (by decide), ?_⟩
      have fin : ∀ (m' x : Int), Q (.int (x % many)) (upd H st (.lst (stv scr i v m' (c + 1)))) := fun m' x => q _ _ (Int.emod_nonneg _ (by omega)) (Int.emod_lt_of_pos _ hm0) (DrAt.upd hst hscr hl h0)
      refine ⟨fun σ' H' => (∃ a b, σ' = [some (.ref st), some (.int many), some (.int a), some (.int b), none, none]) ∧ ∃ m', H' = upd H st (.lst (stv scr i v m' (c + 1))), ?_, ?_⟩
      · refine ⟨_, .inl (SqL.of upd_same), _, rfl, ?_⟩
        refine ite2 (fun e1 => ?_) (fun e1 => ?_)
        · refine ⟨_, _, _, 3, rfl, rfl, upd_same, rfl, ⟨_, _, rfl⟩, 0, ?_⟩
          rw [upd_upd]
          rfl
        · exact ⟨⟨_, _, rfl⟩, m, rfl⟩
      · rintro σ' H' ⟨⟨a, b, rfl⟩, m', rfl⟩
        refine ⟨.inl (.inr ⟨by decide, by decide⟩), (by decide), hm0, ?_⟩
        exact fin m' _

/-! ### _law_state -/
def sp__law_state (K : PySem.W.Frag) : Sp := fun vs H Q _ => ∃ (a : Addr) (ns : List Int), vs = [.ref a] ∧ SqL K H a (ns.map V.int) ∧ ns.length ≤ 63 ∧
  ∀ (H' : Hp) (st scr : Addr), Same H H' → H st = none → H scr = none → DrAt H' st scr → Q (.ref st) H'
theorem len__law_state {vs : List V} {H : Hp} {Q : VK} {E : XK} (h : sp__law_state K vs H Q E) : vs.length = 1 := by
  obtain ⟨_, _, rfl, _⟩ := h
  rfl
theorem ok__law_state {f : Addr} {fd : FuncData} (F : Fun K "_law_state" "_law_state" s__law_state f fd) (T : Gs K mg a_BadRow a_ElseputError a_NoRow a_Table a_Taken a_UnknownField a_UnknownKey a_UnknownName) : FnOk P w K mg base CX0 1 f fd ["_law_script"] (sp__law_state K) := by
  refine F.ok sc__law_state (fun vs H Q E h => len__law_state h) (fun cdv A outer s H vs Q E hr h => ?_)
  obtain ⟨a, ns, rfl, hS, hl, q⟩ := h
  refine ⟨_, (pss_one (ps_ret (pe_lst (pa_cons (pe_callTy (listK K) (by rfl) T.z_list (by decide +kernel) (pa_cons (v_ 0) pa_nil)) (pa_cons pe_int (pa_cons pe_int (pa_cons pe_int (pa_cons pe_int pa_nil)))))))), ?_⟩
  refine ⟨_, _, rfl, .inl hS, fun l nl => ?_⟩
  refine ⟨(by show 5 ≤ sizeLine; decide), fun st nst => ?_⟩
  have hne := new_ne nst
  refine q _ st l ((same_new nl).trans (same_new nst)) (free_new nst) nl ⟨ns, 0, 0, 0, 0, upd_same, ?_, hl, by omega⟩
  rw [upd_ne hne.symm, upd_same]

theorem at_list {α : Type} {xs : List α} {r : Int} (h0 : 0 ≤ r) (h1 : r < xs.length) : ∃ x, atI xs r = some x ∧ x ∈ xs := by
  have hi : r.toNat < xs.length := by omega
  refine ⟨xs[r.toNat], ?_, List.getElem_mem hi⟩
  have hq : atI xs ((r.toNat : Nat) : Int) = some xs[r.toNat] := atI_nat (List.getElem?_eq_getElem hi)
  rwa [show ((r.toNat : Nat) : Int) = r by omega] at hq
theorem at_str {z : Str} {r : Int} (h0 : 0 ≤ r) (h1 : r < z.length) : ∃ c, atI z.cps.toList r = some c ∧ c ∈ z.cps.toList := at_list h0 (by rw [len_cps]; exact h1)
theorem many_small {m : Int} (h0 : 0 < m) (h1 : m ≤ 1000000000) : m.natAbs < 2 ^ 200 := Nat.lt_of_le_of_lt (show m.natAbs ≤ 2 ^ 30 by omega) (Nat.pow_lt_pow_right (by decide) (by decide))
/-! ### _law_pick -/
def sp__law_pick (K : PySem.W.Frag) : Sp := fun vs H Q _ => ∃ (st scr : Addr) (v : V), vs = [.ref st, v] ∧ DrAt H st scr ∧
  ((∃ z : Str, v = .str z ∧ 0 < z.length ∧ z.length ≤ 1000 ∧ ∀ (c : Nat) (l : List V), c ∈ z.cps.toList → DrAt (upd H st (.lst l)) st scr → Q (.str ⟨#[c]⟩) (upd H st (.lst l))) ∨
    ∃ (p : Addr) (xs : List V), v = .ref p ∧ H p = some (.lst xs) ∧ p ≠ st ∧ 0 < xs.length ∧ xs.length ≤ 1000 ∧ ∀ (x : V) (l : List V), x ∈ xs → DrAt (upd H st (.lst l)) st scr → Q x (upd H st (.lst l)))
theorem len__law_pick {vs : List V} {H : Hp} {Q : VK} {E : XK} (h : sp__law_pick K vs H Q E) : vs.length = 2 := by
  obtain ⟨_, _, _, rfl, _⟩ := h
  rfl
theorem ok__law_pick {f : Addr} {fd : FuncData} {f__law_draw : Addr} {fd__law_draw : FuncData} (F : Fun K "_law_pick" "_law_pick" s__law_pick f fd) (T : Gs K mg a_BadRow a_ElseputError a_NoRow a_Table a_Taken a_UnknownField a_UnknownKey a_UnknownName) (c__law_draw : Cal P w K mg base CX0 1 "_law_draw" f__law_draw fd__law_draw ["_law_state_here", "_law_many"] (sp__law_draw K)) : FnOk P w K mg base CX0 2 f fd ["_law_state_here", "_law_row"] (sp__law_pick K) := by
  refine F.ok sc__law_pick (fun vs H Q E h => len__law_pick h) (fun cdv A outer s H vs Q E hr h => ?_)
  obtain ⟨st, scr, v, rfl, hd, h⟩ := h
  refine ⟨_, (pss_one (ps_ret (e_x K (v_ 1) (pe_call c__law_draw.G (hr.mono (by first | decide | omega)) rfl c__law_draw.m c__law_draw.kp c__law_draw.b .nil pass0 (pa_cons (v_ 0) (pa_cons (pe_callB (lenK K) (by rfl) T.z_len PySem.boot_len (pa_cons (v_ 1) pa_nil)) pa_nil)))))), ?_⟩
  rcases h with ⟨z, rfl, h0, h1, q⟩ | ⟨p, xs, rfl, hp, hne, h0, h1, q⟩
  · refine ⟨line_of (by omega), st, scr, _, rfl, hd, by omega, many_small (by omega) (by omega), fun r l r0 r1 hd' => ?_⟩
    obtain ⟨c, hc, hm⟩ := at_str r0 r1
    exact ⟨line_of (by omega), c, hc, q c l hm hd'⟩
  · refine .inl ⟨_, .inl (SqL.of hp), st, scr, _, rfl, hd, by omega, many_small (by omega) (by omega), fun r l r0 r1 hd' => ?_⟩
    obtain ⟨x, hx, hm⟩ := at_list r0 r1
    exact ⟨_, .inl (SqL.of (by rw [upd_ne hne]; exact hp)), x, hx, q x l hm hd'⟩

theorem cutV_take (xs : List V) {k : Int} (h : 0 ≤ k) : cutV xs none (some k) = xs.take k.toNat := by
  unfold cutV
  have e := HT.sIx_nat xs.length xs.length k.toNat
  rw [show ((k.toNat : Nat) : Int) = k by omega] at e
  rw [e, HT.sIx_none, List.drop_zero]
  by_cases hk : k.toNat ≤ xs.length
  · rw [Nat.min_eq_left hk, Nat.sub_zero]
  · rw [Nat.min_eq_right (by omega), Nat.sub_zero, List.take_length, List.take_of_length_le (by omega)]
theorem cutV_drop (xs : List V) {k : Int} (h : 0 ≤ k) : cutV xs (some k) none = xs.drop k.toNat := by
  unfold cutV
  have e := HT.sIx_nat xs.length 0 k.toNat
  rw [show ((k.toNat : Nat) : Int) = k by omega] at e
  rw [e, HT.sIx_none]
  by_cases hk : k.toNat ≤ xs.length
  · rw [Nat.min_eq_left hk, List.take_of_length_le (by rw [List.length_drop]; omega)]
  · rw [Nat.min_eq_right (by omega), List.drop_of_length_le (Nat.le_refl _), List.drop_of_length_le (by omega)]
    exact List.take_nil
def sp__law_mixed (K : PySem.W.Frag) : Sp := fun vs H Q _ => ∃ (st scr p : Addr) (xs : List V), vs = [.ref st, .ref p] ∧ DrAt H st scr ∧ H p = some (.lst xs) ∧ p ≠ st ∧ xs.length ≤ 1000 ∧
  ∀ (H' : Hp) (r : Addr) (ys : List V), Bt st H H' → DrAt H' st scr → H r = none → H' r = some (.lst ys) → ys.Perm xs → Q (.ref r) H'
theorem len__law_mixed {vs : List V} {H : Hp} {Q : VK} {E : XK} (h : sp__law_mixed K vs H Q E) : vs.length = 2 := by
  obtain ⟨_, _, _, _, rfl, _⟩ := h
  rfl
theorem ok__law_mixed {f : Addr} {fd : FuncData} {f__law_draw : Addr} {fd__law_draw : FuncData} (F : Fun K "_law_mixed" "_law_mixed" s__law_mixed f fd) (T : Gs K mg a_BadRow a_ElseputError a_NoRow a_Table a_Taken a_UnknownField a_UnknownKey a_UnknownName) (c__law_draw : Cal P w K mg base CX0 1 "_law_draw" f__law_draw fd__law_draw ["_law_state_here", "_law_many"] (sp__law_draw K)) : FnOk P w K mg base CX0 2 f fd ["_law_state_here", "_law_row"] (sp__law_mixed K) := by
  refine F.ok sc__law_mixed (fun vs H Q E h => len__law_mixed h) (fun cdv A outer s H vs Q E hr h => ?_)
  obtain ⟨st, scr, p, xs, rfl, hd, hp, hne, hl, q⟩ := h
  refine ⟨_, (pss_cons (ps_set (i := 2) sc__law_mixed.nd rfl (.inl rfl) (pe_callTy (listK K) (by rfl) T.z_list (by decide +kernel) (pa_cons (v_ 1) pa_nil))) (pss_cons (ps_set (i := 3) sc__law_mixed.nd rfl (.inl rfl) (pe_lst pa_nil)) (pss_cons (ps_for PassesOwn.never rfl (pi_range1 rfl T.z_range (pa_cons (pe_callB (lenK K) (by rfl) T.z_len PySem.boot_len (pa_cons (v_ 1) pa_nil)) pa_nil)) (pg_name (i := 4) sc__law_mixed.nd rfl (.inl rfl)) (pss_cons (ps_set (i := 5) sc__law_mixed.nd rfl (.inl rfl) (pe_call c__law_draw.G (hr.mono (by first | decide | omega)) rfl c__law_draw.m c__law_draw.kp c__law_draw.b .nil pass0 (pa_cons (v_ 0) (pa_cons (pe_callB (lenK K) (by rfl) T.z_len PySem.boot_len (pa_cons (v_ 2) pa_nil)) pa_nil)))) (pss_cons (ps_expr (pe_bm PySem.F.plainAttrs_list PySem.F.slot_list_append PySem.F.type_list_append mt_append (v_ 3) (pa_cons (e_x K (v_ 2) (v_ 5)) pa_nil))) (pss_one (ps_set (i := 2) sc__law_mixed.nd rfl (.inl rfl) (pe_op (addK K) (pe_slice (slK K) (v_ 2) po_none (po_some (v_ 5))) (pe_slice (slK K) (v_ 2) (po_some (pe_op (addK K) (v_ 5) pe_int)) po_none))))))) (pss_one (ps_ret (v_ 3)))))), ?_⟩
  refine ⟨_, _, rfl, .inl (SqL.of hp), fun t nt => ?_⟩
  refine ⟨Nat.zero_le _, fun r nr => ?_⟩
  have tr := new_ne nr
  have hr0 := free_new nr
  have hd0 := (hd.new (same_new (o := .lst xs) nt)).new (same_new (o := .lst []) nr)
  have ts : t ≠ st := hd.ne_new nt
  have rs : r ≠ st := hd.ne_new hr0
  have rc : r ≠ scr := hd.ne_scr hr0
  refine .inl ⟨_, .inl (SqL.of (by rw [upd_ne (ne_of_none hp hr0), upd_ne (ne_of_none hp nt)]; exact hp)), xs.length, rfl, by omega, by omega, ?_⟩
  refine for_range (lo := 0) (n := xs.length) (fun i σ' H' => ∃ (t : Addr) (rest ys : List V) (y z : Option V), σ' = [some (.ref st), some (.ref p), some (.ref t), some (.ref r), y, z] ∧ Bt st H H' ∧ DrAt H' st scr ∧ t ≠ st ∧ t ≠ r ∧ H' t = some (.lst rest) ∧ H' r = some (.lst ys) ∧ rest.length + i = xs.length ∧ ys.length = i ∧ (rest ++ ys).Perm xs) ?_ ?_ ?_
  · exact ⟨t, xs, [], _, _, rfl, .same ((same_new nt).trans (same_new nr)), hd0, ts, tr.symm, by rw [upd_ne tr.symm, upd_same], upd_same, rfl, rfl, by rw [List.append_nil]⟩
  · rintro i σ' H' hi ⟨t, rest, ys, y, z, rfl, bt, hd, ts, tr, ht, hr, l1, l2, m1⟩
    refine .inl ⟨_, .inl (SqL.of ht), st, scr, _, rfl, hd, by omega, many_small (by omega) (by omega), fun a l a0 a1 hd' => ?_⟩
    have ht1 : upd H' st (.lst l) t = some (.lst rest) := by rw [upd_ne ts]; exact ht
    have hr1 : upd H' st (.lst l) r = some (.lst ys) := by rw [upd_ne rs]; exact hr
    obtain ⟨x, hx, hm⟩ := at_list a0 a1
    refine ⟨.inl ⟨rfl, _, SqL.of hr1⟩, _, .inl (SqL.of ht1), x, hx, r, ys, x, rfl, rfl, hr1, line_lt (by omega), ?_⟩
    have hd2 := hd'.at (o := .lst (ys ++ [x])) rs rc
    have ht2 : upd (upd H' st (.lst l)) r (.lst (ys ++ [x])) t = some (.lst rest) := by rw [upd_ne tr]; exact ht1
    refine ⟨a, rfl, .inl ⟨rest, SqL.of ht2, fun u nu => ?_⟩⟩
    rw [cutV_take _ a0]
    have ht3 := same_new (o := .lst (rest.take a.toNat)) nu _ _ ht2
    refine ⟨a + 1, rfl, .inl ⟨rest, SqL.of ht3, fun v nv => ?_⟩⟩
    rw [cutV_drop _ (by omega)]
    have hu := same_new (o := .lst (rest.drop (a + 1).toNat)) nv _ _ (upd_same (H := upd (upd H' st (.lst l)) r (.lst (ys ++ [x]))) (a := u) (o := .lst (rest.take a.toNat)))
    refine .inl ⟨_, _, hu, upd_same, line_of (by rw [List.length_take, List.length_drop]; omega), fun k nk => ?_⟩
    have sm := ((same_new (o := .lst (rest.take a.toNat)) nu).trans (same_new (o := .lst (rest.drop (a + 1).toNat)) nv)).trans (same_new (o := .lst (rest.take a.toNat ++ rest.drop (a + 1).toNat)) nk)
    have hd3 := hd2.new sm
    have kn := free_new (free_new nk)
    refine ⟨k, _, ys ++ [x], _, _, rfl, ?_, hd3, hd2.ne_new kn, (ne_of_none upd_same kn).symm, upd_same, sm _ _ upd_same, ?_, by rw [List.length_append, l2]; rfl, ?_⟩
    · intro b o nb hb
      refine sm _ _ ?_
      have := bt b o nb hb
      rw [upd_ne (ne_of_none hb hr0), upd_ne nb]
      exact this
    · rw [List.length_append, List.length_take, List.length_drop]
      omega
    · have hx' : rest[a.toNat]? = some x := by
        obtain ⟨x', e1, e2⟩ : ∃ x', rest[a.toNat]? = some x' ∧ atI rest a = some x' := by
          have hlt : a.toNat < rest.length := by omega
          refine ⟨_, List.getElem?_eq_getElem hlt, ?_⟩
          have := atI_nat (List.getElem?_eq_getElem hlt)
          rwa [show ((a.toNat : Nat) : Int) = a by omega] at this
        rw [hx] at e2
        cases e2
        exact e1
      have hr' : rest = rest.take a.toNat ++ x :: rest.drop (a + 1).toNat := by
        obtain ⟨h1, h2⟩ := List.getElem?_eq_some_iff.mp hx'
        rw [show (a + 1).toNat = a.toNat + 1 by omega, ← h2, ← List.drop_eq_getElem_cons h1, List.take_append_drop]
      refine List.Perm.trans ?_ m1
      rw [← List.append_assoc]
      have p1 : (rest.take a.toNat ++ rest.drop (a + 1).toNat ++ ys ++ [x]).Perm (rest.take a.toNat ++ (x :: rest.drop (a + 1).toNat) ++ ys) := by
        refine (List.perm_append_comm (l₁ := rest.take a.toNat ++ rest.drop (a + 1).toNat ++ ys) (l₂ := [x])).trans ?_
        rw [List.append_assoc, List.append_assoc]
        exact (List.perm_middle (a := x) (l₁ := rest.take a.toNat) (l₂ := rest.drop (a + 1).toNat ++ ys)).symm
      rw [← hr'] at p1
      exact p1
  · rintro σ' H' ⟨t, rest, ys, y, z, rfl, bt, hd, ts, tr, ht, hr, l1, l2, m1⟩
    refine q H' r ys bt hd hr0 hr ?_
    have : rest = [] := List.eq_nil_of_length_eq_zero (by omega)
    rw [this] at m1
    exact m1
end
section
variable {P : Program} {w : World} {K : PySem.W.Frag} {mg : Str → Option Value} {base : Heap}
variable {a_BadRow a_ElseputError a_NoRow a_Table a_Taken a_UnknownField a_UnknownKey a_UnknownName : Addr}
theorem take_snoc {α : Type} {xs : List α} {i : Nat} {x : α} (h : xs[i]? = some x) : xs.take (i + 1) = xs.take i ++ [x] := by
  rw [List.take_add_one, h]
  rfl
theorem SqT.same {K : PySem.W.Frag} {H H' : Hp} {a : Addr} {xs : List V} (h : SqT K H a xs) (s : Same H H') : SqT K H' a xs := by
  rcases h with (h | ⟨o, h⟩) | h
  · exact .inl (.inl (s _ _ h))
  · exact .inl (.inr ⟨o, s _ _ h⟩)
  · exact .inr h
/-- no tuple stands at st -/
def NT (H : Hp) (st : Addr) : Prop := ∀ xs : List V, H st ≠ some (.tup xs) ∧ ∀ o, H st ≠ some (.frz o (.tup xs))
theorem NT.lst {H : Hp} {st : Addr} (h : ∃ l, H st = some (.lst l)) : NT H st := fun xs => by
  obtain ⟨l, h⟩ := h
  rw [h]
  exact ⟨(fun e => by cases e), (fun o e => by cases e)⟩
theorem NT.ins {H : Hp} {st C dx : Addr} {fs : List (Str × V)} (h : H st = some (.ins C dx fs)) : NT H st := fun xs => by
  rw [h]
  exact ⟨(fun e => by cases e), (fun o e => by cases e)⟩
theorem SqT.bt {K : PySem.W.Frag} {H H' : Hp} {a st : Addr} {xs : List V} (h : SqT K H a xs) (hs : NT H st) (s : Bt st H H') : SqT K H' a xs := by
  rcases h with (h | ⟨o, h⟩) | h
  · exact .inl (.inl (s _ _ (fun e => (hs xs).1 (e ▸ h)) h))
  · exact .inl (.inr ⟨o, s _ _ (fun e => (hs xs).2 o (e ▸ h)) h⟩)
  · exact .inr h
theorem ty_tup {K : PySem.W.Frag} {H : Hp} {a : Addr} {xs : List V} (h : SqT K H a xs) : TyX K H (.ref a) (.type "tuple") := by
  rcases h with (h | ⟨o, h⟩) | ⟨o, its, n, e, c, _⟩
  · exact .base (.tup h)
  · exact .fTuple h
  · exact .kTuple e c
def Bd (i : Int) : Prop := -1000000000000000000000000000000 ≤ i ∧ i ≤ 1000000000000000000000000000000
def sp__law_number (K : PySem.W.Frag) : Sp := fun vs H Q _ => ∃ (st scr : Addr), vs = [.ref st] ∧ DrAt H st scr ∧ ∀ (l : List V) (i : Int), Bd i → DrAt (upd H st (.lst l)) st scr → Q (.int i) (upd H st (.lst l))
theorem len__law_number {vs : List V} {H : Hp} {Q : VK} {E : XK} (h : sp__law_number K vs H Q E) : vs.length = 1 := by
  obtain ⟨_, _, rfl, _⟩ := h
  rfl
theorem p30 : (10 : Int) ^ (30 : Int).toNat = 1000000000000000000000000000000 := by decide +kernel
theorem ok__law_number {f : Addr} {fd : FuncData} {f__law_draw : Addr} {fd__law_draw : FuncData} (F : Fun K "_law_number" "_law_number" s__law_number f fd) (T : Gs K mg a_BadRow a_ElseputError a_NoRow a_Table a_Taken a_UnknownField a_UnknownKey a_UnknownName) (c__law_draw : Cal P w K mg base CX0 1 "_law_draw" f__law_draw fd__law_draw ["_law_state_here", "_law_many"] (sp__law_draw K)) : FnOk P w K mg base CX0 2 f fd ["_law_state_here"] (sp__law_number K) := by
  refine F.ok sc__law_number (fun vs H Q E h => len__law_number h) (fun cdv A outer s H vs Q E hr h => ?_)
  obtain ⟨st, scr, rfl, hd, q⟩ := h
  refine ⟨_, (pss_cons (ps_set (i := 1) sc__law_number.nd rfl (.inl rfl) (pe_call c__law_draw.G (hr.mono (by first | decide | omega)) rfl c__law_draw.m c__law_draw.kp c__law_draw.b .nil pass0 (pa_cons (v_ 0) (pa_cons pe_int pa_nil)))) (pss_cons (ps_if (pt_c op_ltM (v_ 1) pe_int) (pss_one (ps_ret (pe_op op_subM (pe_call c__law_draw.G (hr.mono (by first | decide | omega)) rfl c__law_draw.m c__law_draw.kp c__law_draw.b .nil pass0 (pa_cons (v_ 0) (pa_cons pe_int pa_nil))) pe_int))) pss_nil) (pss_cons (ps_if (pt_c (eqK K hr.units) (v_ 1) pe_int) (pss_one (ps_ret (pe_op op_subM (pe_call c__law_draw.G (hr.mono (by first | decide | omega)) rfl c__law_draw.m c__law_draw.kp c__law_draw.b .nil pass0 (pa_cons (v_ 0) (pa_cons pe_int pa_nil))) pe_int))) pss_nil) (pss_cons (ps_if (pt_c (eqK K hr.units) (v_ 1) pe_int) (pss_one (ps_ret (pe_op op_subM (pe_op op_powM pe_int pe_int) (pe_call c__law_draw.G (hr.mono (by first | decide | omega)) rfl c__law_draw.m c__law_draw.kp c__law_draw.b .nil pass0 (pa_cons (v_ 0) (pa_cons pe_int pa_nil)))))) pss_nil) (pss_cons (ps_if (pt_c (eqK K hr.units) (v_ 1) pe_int) (pss_one (ps_ret (pe_op op_subM (pe_call c__law_draw.G (hr.mono (by first | decide | omega)) rfl c__law_draw.m c__law_draw.kp c__law_draw.b .nil pass0 (pa_cons (v_ 0) (pa_cons pe_int pa_nil))) (pe_op op_powM pe_int pe_int)))) pss_nil) (pss_one (ps_ret (pe_op op_subM (pe_call c__law_draw.G (hr.mono (by first | decide | omega)) rfl c__law_draw.m c__law_draw.kp c__law_draw.b .nil pass0 (pa_cons (v_ 0) (pa_cons (pe_op (addK K) (pe_op op_mulSM pe_int (pe_op op_powM pe_int pe_int)) pe_int) pa_nil))) (pe_op op_powM pe_int pe_int))))))))), ?_⟩
  refine ⟨st, scr, _, rfl, hd, by decide, many_small (by decide) (by decide), fun kd l _ _ hd1 => ?_⟩
  have q : ∀ (l2 : List V) (i : Int), Bd i → DrAt (upd (upd H st (.lst l)) st (.lst l2)) st scr → Q (.int i) (upd (upd H st (.lst l)) st (.lst l2)) := fun l2 i b d => by
    rw [upd_upd] at d ⊢
    exact q l2 i b d
  generalize upd H st (.lst l) = H1 at hd1 q ⊢
  refine ite2 (fun e => ?_) (fun e => ?_)
  · refine ⟨st, scr, _, rfl, hd1, by decide, many_small (by decide) (by decide), fun r l2 r0 r1 hd2 => ?_⟩
    exact q l2 _ (by unfold Bd; omega) hd2
  refine ite2 (fun e => ?_) (fun e => ?_)
  · refine ⟨st, scr, _, rfl, hd1, by decide, many_small (by decide) (by decide), fun r l2 r0 r1 hd2 => ?_⟩
    exact q l2 _ (by unfold Bd; omega) hd2
  refine ite2 (fun e => ?_) (fun e => ?_)
  · refine ⟨(by unfold CPow; decide), ?_⟩
    refine ⟨st, scr, _, rfl, hd1, by decide, many_small (by decide) (by decide), fun r l2 r0 r1 hd2 => ?_⟩
    rw [p30]
    exact q l2 _ (by unfold Bd; omega) hd2
  refine ite2 (fun e => ?_) (fun e => ?_)
  · refine ⟨st, scr, _, rfl, hd1, by decide, many_small (by decide) (by decide), fun r l2 r0 r1 hd2 => ?_⟩
    refine ⟨(by unfold CPow; decide), ?_⟩
    rw [p30]
    exact q l2 _ (by unfold Bd; omega) hd2
  refine ⟨(by unfold CPow; decide), ?_⟩
  rw [p30]
  refine ⟨.inl (.inl ⟨by decide, by decide⟩), ?_⟩
  refine ⟨st, scr, _, rfl, hd1, by decide, by decide +kernel, fun r l2 r0 r1 hd2 => ?_⟩
  refine ⟨(by unfold CPow; decide), ?_⟩
  rw [p30]
  exact q l2 _ (by unfold Bd; omega) hd2
def sp__law_constant (K : PySem.W.Frag) : Sp := sp__law_number K
theorem len__law_constant {vs : List V} {H : Hp} {Q : VK} {E : XK} (h : sp__law_constant K vs H Q E) : vs.length = 1 := len__law_number h
theorem ok__law_constant {f : Addr} {fd : FuncData} {f__law_number : Addr} {fd__law_number : FuncData} {f__law_draw : Addr} {fd__law_draw : FuncData} (F : Fun K "_law_constant" "_law_constant" s__law_constant f fd) (T : Gs K mg a_BadRow a_ElseputError a_NoRow a_Table a_Taken a_UnknownField a_UnknownKey a_UnknownName) (c__law_number : Cal P w K mg base CX0 2 "_law_number" f__law_number fd__law_number ["_law_state_here"] (sp__law_number K)) (c__law_draw : Cal P w K mg base CX0 1 "_law_draw" f__law_draw fd__law_draw ["_law_state_here", "_law_many"] (sp__law_draw K)) : FnOk P w K mg base CX0 3 f fd ["_law_state_here"] (sp__law_constant K) := by
  refine F.ok sc__law_constant (fun vs H Q E h => len__law_constant h) (fun cdv A outer s H vs Q E hr h => ?_)
  obtain ⟨st, scr, rfl, hd, q⟩ := h
  refine ⟨_, (pss_cons (ps_if (pt_c op_ltM (pe_call c__law_draw.G (hr.mono (by first | decide | omega)) rfl c__law_draw.m c__law_draw.kp c__law_draw.b .nil pass0 (pa_cons (v_ 0) (pa_cons pe_int pa_nil))) pe_int) (pss_one (ps_ret (pe_op op_subM (pe_call c__law_draw.G (hr.mono (by first | decide | omega)) rfl c__law_draw.m c__law_draw.kp c__law_draw.b .nil pass0 (pa_cons (v_ 0) (pa_cons pe_int pa_nil))) pe_int))) pss_nil) (pss_one (ps_ret (pe_call c__law_number.G (hr.mono (by first | decide | omega)) rfl c__law_number.m c__law_number.kp c__law_number.b .nil pass0 (pa_cons (v_ 0) pa_nil))))), ?_⟩
  refine ⟨st, scr, _, rfl, hd, by decide, many_small (by decide) (by decide), fun kd l _ _ hd1 => ?_⟩
  have q : ∀ (l2 : List V) (i : Int), Bd i → DrAt (upd (upd H st (.lst l)) st (.lst l2)) st scr → Q (.int i) (upd (upd H st (.lst l)) st (.lst l2)) := fun l2 i b d => by
    rw [upd_upd] at d ⊢
    exact q l2 i b d
  refine ite2 (fun e => ?_) (fun e => ?_)
  · refine ⟨st, scr, _, rfl, hd1, by decide, many_small (by decide) (by decide), fun r l2 r0 r1 hd2 => ?_⟩
    exact q l2 _ (by unfold Bd; omega) hd2
  · exact ⟨st, scr, rfl, hd1, fun l2 i b d => q l2 i b d⟩

end
section
variable {P : Program} {w : World} {K : PySem.W.Frag} {mg : Str → Option Value} {base : Heap}
variable {a_BadRow a_ElseputError a_NoRow a_Table a_Taken a_UnknownField a_UnknownKey a_UnknownName : Addr}
/-! ### is_name -/
abbrev letters : Str := "abcdefghijklmnopqrstuvwxyz"
abbrev resv : List V := [.str "always", .str "never", .str "and", .str "or", .str "not", .str "when", .str "add", .str "set", .str "change", .str "tell", .str "refuse", .str "take", .str "look", .str "free", .str "lock", .str "keep", .str "keys", .str "fields"]
def isName (z : Str) : Bool := if (decide ((z.length : Int) < 1) || decide ((12 : Int) < z.length) || inV (.str z) resv) = true then false else z.cps.toList.all fun c => decide (c ∈ letters.cps.toList)
/-! ### names -/
/-- small letters, of which the one at p is c -/
def Lt (z : Str) (p c : Nat) : Prop := (∀ d ∈ z.cps.toList, d ∈ letters.cps.toList) ∧ z.cps.toList[p]? = some c ∧ z.length ≤ 12
theorem Lt.name {z : Str} {p c : Nat} (h : Lt z p c) (hr : inV (.str z) resv = false) : isName z = true := by
  unfold isName
  have h0 : ¬ ((z.length : Int) < 1) := by
    have := (List.getElem?_eq_some_iff.mp h.2.1).1
    rw [len_cps] at this
    omega
  have h1 : ¬ ((12 : Int) < z.length) := by have := h.2.2; omega
  rw [decide_eq_false h0, decide_eq_false h1, hr]
  show (z.cps.toList.all fun c => decide (c ∈ letters.cps.toList)) = true
  exact List.all_eq_true.mpr fun d hd => decide_eq_true (h.1 d hd)
theorem resv_strs : resv = (["always", "never", "and", "or", "not", "when", "add", "set", "change", "tell", "refuse", "take", "look", "free", "lock", "keep", "keys", "fields"] : List Str).map V.str := rfl
theorem resv_z {z : Str} (h : inV (.str z) resv = true) : inV (.str (z ++ "z")) resv = false ∧ z.length ≤ 7 := by
  rw [resv_strs, inV_str, decide_eq_true_iff] at h
  have all : (["always", "never", "and", "or", "not", "when", "add", "set", "change", "tell", "refuse", "take", "look", "free", "lock", "keep", "keys", "fields"] : List Str).all (fun z => !inV (.str (z ++ "z")) resv && decide (z.length ≤ 7)) = true := by decide +kernel
  have := List.all_eq_true.mp all z h
  rw [Bool.and_eq_true, Bool.not_eq_true', decide_eq_true_iff] at this
  exact this
end
section
variable {P : Program} {w : World} {K : PySem.W.Frag} {mg : Str → Option Value} {base : Heap}
variable {a_BadRow a_ElseputError a_NoRow a_Table a_Taken a_UnknownField a_UnknownKey a_UnknownName : Addr}
theorem cutS_take (z : Str) {k : Nat} : (cutS z none (some (k : Int))).cps.toList = z.cps.toList.take k := by
  unfold cutS
  rw [List.toList_toArray, HT.sIx_nat, HT.sIx_none, List.drop_zero, Nat.sub_zero, List.take_eq_take_iff, len_cps]
  omega
theorem cutS_drop (z : Str) {k : Nat} : (cutS z (some (k : Int)) none).cps.toList = z.cps.toList.drop k := by
  unfold cutS
  rw [List.toList_toArray, HT.sIx_nat, HT.sIx_none]
  by_cases h : k ≤ z.length
  · rw [Nat.min_eq_left h, List.take_of_length_le (by rw [List.length_drop, len_cps]; omega)]
  · rw [Nat.min_eq_right (by omega), List.drop_of_length_le (by rw [len_cps]; omega), List.drop_of_length_le (by rw [len_cps]; omega), List.take_nil]
theorem letter_at {i : Int} (h0 : 0 ≤ i) (h1 : i < 26) : atI letters.cps.toList i = some (97 + i.toNat) := by
  have all : ∀ j : Fin 26, letters.cps.toList[j.val]? = some (97 + j.val) := by decide +kernel
  have := all ⟨i.toNat, by omega⟩
  have hq := atI_nat this
  rwa [show ((i.toNat : Nat) : Int) = i by omega] at hq
theorem letter_mem {i : Nat} (h1 : i < 26) : (97 + i) ∈ letters.cps.toList := by
  have all : ∀ j : Fin 26, (97 + j.val) ∈ letters.cps.toList := by decide +kernel
  exact all ⟨i, h1⟩
theorem one_len (c : Nat) : (⟨#[c]⟩ : Str).length = 1 := rfl
theorem one_cps (c : Nat) : (⟨#[c]⟩ : Str).cps.toList = [c] := rfl
theorem Lt.z {z : Str} {p c : Nat} (h : Lt z p c) (hl : z.length ≤ 7) : Lt (z ++ "z") p c := by
  refine ⟨fun d hd => ?_, ?_, ?_⟩
  · rw [cps_add] at hd
    rcases List.mem_append.mp hd with e | e
    · exact h.1 d e
    · have : d = 122 := by simpa using (show d ∈ [122] from e)
      rw [this]
      decide +kernel
  · rw [cps_add, List.getElem?_append_left (List.getElem?_eq_some_iff.mp h.2.1).1]
    exact h.2.1
  · rw [len_add]
    show z.length + 1 ≤ 12
    omega
def sp__law_names (K : PySem.W.Frag) : Sp := fun vs H Q _ => ∃ (st scr : Addr) (n : Nat), vs = [.ref st, .int n] ∧ DrAt H st scr ∧ n ≤ 26 ∧
  ∀ (H' : Hp) (p : Addr) (zs : List Str), Bt st H H' → DrAt H' st scr → H p = none → H' p = some (.lst (zs.map V.str)) → zs.length = n → (∀ z ∈ zs, isName z = true ∧ z.length ≤ 12) → zs.Nodup → Q (.ref p) H'
theorem len__law_names {vs : List V} {H : Hp} {Q : VK} {E : XK} (h : sp__law_names K vs H Q E) : vs.length = 2 := by
  obtain ⟨_, _, _, rfl, _⟩ := h
  rfl
theorem ok__law_names {f : Addr} {fd : FuncData} {f__law_draw : Addr} {fd__law_draw : FuncData} (F : Fun K "_law_names" "_law_names" s__law_names f fd) (T : Gs K mg a_BadRow a_ElseputError a_NoRow a_Table a_Taken a_UnknownField a_UnknownKey a_UnknownName) (c__law_draw : Cal P w K mg base CX0 1 "_law_draw" f__law_draw fd__law_draw ["_law_state_here", "_law_many"] (sp__law_draw K)) : FnOk P w K mg base CX0 2 f fd ["_law_state_here", "_law_many"] (sp__law_names K) := by
  refine F.ok sc__law_names (fun vs H Q E h => len__law_names h) (fun cdv A outer s H vs Q E hr h => ?_)
  obtain ⟨st, scr, n, rfl, hd, hn, q⟩ := h
  refine ⟨_, (pss_cons (ps_set (i := 2) sc__law_names.nd rfl (.inl rfl) pe_str) (pss_cons (ps_set (i := 3) sc__law_names.nd rfl (.inl rfl) (pe_call c__law_draw.G (hr.mono (by first | decide | omega)) rfl c__law_draw.m c__law_draw.kp c__law_draw.b .nil pass0 (pa_cons (v_ 0) (pa_cons pe_int pa_nil)))) (pss_cons (ps_set (i := 4) sc__law_names.nd rfl (.inl rfl) (pe_call c__law_draw.G (hr.mono (by first | decide | omega)) rfl c__law_draw.m c__law_draw.kp c__law_draw.b .nil pass0 (pa_cons (v_ 0) (pa_cons pe_int pa_nil)))) (pss_cons (ps_set (i := 5) sc__law_names.nd rfl (.inl rfl) (pe_call c__law_draw.G (hr.mono (by first | decide | omega)) rfl c__law_draw.m c__law_draw.kp c__law_draw.b .nil pass0 (pa_cons (v_ 0) (pa_cons pe_int pa_nil)))) (pss_cons (ps_set (i := 6) sc__law_names.nd rfl (.inl rfl) (pe_call c__law_draw.G (hr.mono (by first | decide | omega)) rfl c__law_draw.m c__law_draw.kp c__law_draw.b .nil pass0 (pa_cons (v_ 0) (pa_cons pe_int pa_nil)))) (pss_cons (ps_set (i := 7) sc__law_names.nd rfl (.inl rfl) pe_str) (pss_cons (ps_for PassesOwn.never rfl (pi_range1 rfl T.z_range (pa_cons pe_int pa_nil)) (pg_name (i := 8) sc__law_names.nd rfl (.inl rfl)) (pss_cons (ps_set (i := 7) sc__law_names.nd rfl (.inl rfl) (pe_op (addK K) (v_ 7) (e_x K (v_ 2) (pe_op op_modM (pe_callTy call_intM (by rfl) T.z_int (by decide +kernel) (pa_cons (v_ 5) pa_nil)) pe_int)))) (pss_one (ps_set (i := 5) sc__law_names.nd rfl (.inl rfl) (pe_op op_divM (pe_callTy call_intM (by rfl) T.z_int (by decide +kernel) (pa_cons (v_ 5) pa_nil)) pe_int))))) (pss_cons (ps_set (i := 9) sc__law_names.nd rfl (.inl rfl) (pe_lst (pa_cons pe_str (pa_cons pe_str (pa_cons pe_str (pa_cons pe_str (pa_cons pe_str (pa_cons pe_str (pa_cons pe_str (pa_cons pe_str (pa_cons pe_str (pa_cons pe_str (pa_cons pe_str (pa_cons pe_str pa_nil)))))))))))))) (pss_cons (ps_set (i := 9) sc__law_names.nd rfl (.inl rfl) (pe_op (addK K) (v_ 9) (pe_lst (pa_cons pe_str (pa_cons pe_str (pa_cons pe_str (pa_cons pe_str (pa_cons pe_str (pa_cons pe_str pa_nil))))))))) (pss_cons (ps_set (i := 10) sc__law_names.nd rfl (.inl rfl) (pe_lst pa_nil)) (pss_cons (ps_for PassesOwn.never rfl (pi_range1 rfl T.z_range (pa_cons (v_ 1) pa_nil)) (pg_name (i := 8) sc__law_names.nd rfl (.inl rfl)) (pss_cons (ps_set (i := 11) sc__law_names.nd rfl (.inl rfl) (e_x K (v_ 2) (pe_op op_modM (pe_callTy call_intM (by rfl) T.z_int (by decide +kernel) (pa_cons (pe_op (addK K) (v_ 4) (pe_op op_mulSM pe_int (v_ 8))) pa_nil)) pe_int))) (Evl.pss_cut (ps_if (pt_c (eqK K hr.units) (v_ 3) pe_int) (pss_one (ps_set (i := 11) sc__law_names.nd rfl (.inl rfl) (pe_op (addK K) (pe_op (addK K) (pe_slice (slK K) (v_ 7) po_none (po_some (v_ 6))) (v_ 11)) (pe_slice (slK K) (v_ 7) (po_some (v_ 6)) po_none)))) pss_nil) (Evl.pss_cut (ps_if (pt_c (eqK K hr.units) (v_ 3) pe_int) (pss_one (ps_set (i := 11) sc__law_names.nd rfl (.inl rfl) (pe_op (addK K) (v_ 11) (pe_slice (slK K) (v_ 7) po_none (po_some (pe_op op_modM (pe_callTy call_intM (by rfl) T.z_int (by decide +kernel) (pa_cons (pe_op (addK K) (pe_op op_mulSM pe_int (v_ 8)) (v_ 6)) pa_nil)) pe_int)))))) pss_nil) (Evl.pss_cut (ps_if (pt_c (eqK K hr.units) (v_ 3) pe_int) (pss_one (ps_set (i := 11) sc__law_names.nd rfl (.inl rfl) (pe_op (addK K) (pe_op (addK K) (pe_slice (slK K) (v_ 7) po_none (po_some pe_int)) (v_ 11)) (v_ 7)))) pss_nil) (Evl.pss_cut (ps_if (pt_c (inK K) (v_ 11) (v_ 9)) (pss_one (ps_set (i := 11) sc__law_names.nd rfl (.inl rfl) (pe_op (addK K) (v_ 11) pe_str))) pss_nil) (pss_one (ps_expr (pe_bm PySem.F.plainAttrs_list PySem.F.slot_list_append PySem.F.type_list_append mt_append (v_ 10) (pa_cons (v_ 11) pa_nil)))))))))) (pss_one (ps_ret (v_ 10)))))))))))))), ?_⟩
  refine ⟨st, scr, _, rfl, hd, by decide, many_small (by decide) (by decide), fun sty l1 s0 s1 hd1 => ?_⟩
  have b1 : Bt st H (upd H st (.lst l1)) := Bt.st
  generalize upd H st (.lst l1) = H1 at hd1 b1 ⊢
  refine ⟨st, scr, _, rfl, hd1, by decide, many_small (by decide) (by decide), fun sh l2 h0 h1 hd2 => ?_⟩
  have b2 := b1.trans (Bt.st (st := st) (o := .lst l2))
  generalize upd H1 st (.lst l2) = H2 at hd2 b2 ⊢
  refine ⟨st, scr, _, rfl, hd2, by decide, many_small (by decide) (by decide), fun cd l3 c0 c1 hd3 => ?_⟩
  have b3 := b2.trans (Bt.st (st := st) (o := .lst l3))
  generalize upd H2 st (.lst l3) = H3 at hd3 b3 ⊢
  refine ⟨st, scr, _, rfl, hd3, by decide, many_small (by decide) (by decide), fun spt l4 p0 p1 hd4 => ?_⟩
  have b4 := b3.trans (Bt.st (st := st) (o := .lst l4))
  generalize upd H3 st (.lst l4) = H4 at hd4 b4 ⊢
  refine ⟨6, rfl, by decide, by decide, ?_⟩
  refine for_range (lo := 0) (n := 6) (fun i σ' H' => ∃ (z : Str) (code : Int) (y : Option V), σ' = [some (.ref st), some (.int n), some (.str letters), some (.int sty), some (.int sh), some (.int code), some (.int spt), some (.str z), y, none, none, none] ∧ H' = H4 ∧ z.length = i ∧ ∀ d ∈ z.cps.toList, d ∈ letters.cps.toList) ?_ ?_ ?_
  · exact ⟨_, _, _, rfl, rfl, rfl, fun _ h => nomatch h⟩
  · rintro i σ' H' hi ⟨z, code, y, rfl, rfl, hz, ha⟩
    refine ⟨by decide, ?_⟩
    have r0 := Int.emod_nonneg code (by decide : (26 : Int) ≠ 0)
    have r1 := Int.emod_lt_of_pos code (by decide : (0 : Int) < 26)
    refine ⟨line_of (by decide +kernel), _, letter_at r0 r1, line_of (by rw [one_len]; omega), ?_⟩
    refine ⟨.inl ⟨by decide, by decide⟩, ?_⟩
    refine ⟨_, _, _, rfl, rfl, by rw [len_add, one_len, hz], fun d hd => ?_⟩
    rw [cps_add, one_cps] at hd
    rcases List.mem_append.mp hd with h | h
    · exact ha d h
    · rw [List.mem_singleton.mp h]
      exact letter_mem (by omega)
  rintro σ' H' ⟨bs, code, y, rfl, rfl, hz, ha⟩
  have hbl : bs.cps.toList.length = 6 := by rw [len_cps]; exact hz
  refine ⟨(by show 12 ≤ sizeLine; decide), fun o no => ?_⟩
  refine ⟨(by show 6 ≤ sizeLine; decide), fun p np => ?_⟩
  have hpo := new_ne np
  refine .inl ⟨_, _, (by rw [upd_ne hpo.symm, upd_same]), upd_same, (by show 18 ≤ sizeLine; decide), fun rv nrv => ?_⟩
  have sm := ((same_new (o := .lst [.str "always", .str "never", .str "and", .str "or", .str "not", .str "when", .str "add", .str "set", .str "change", .str "tell", .str "refuse", .str "take"]) no).trans (same_new (o := .lst [.str "look", .str "free", .str "lock", .str "keep", .str "keys", .str "fields"]) np)).trans (same_new (o := .lst resv) nrv)
  generalize hH5 : upd _ rv _ = H5
  have hrv : H5 rv = some (.lst resv) := by rw [← hH5]; exact upd_same
  have hd5 : DrAt H5 st scr := by rw [← hH5]; exact hd4.new sm
  have b5 : Bt st H H5 := by rw [← hH5]; exact b4.trans (Bt.same (st := st) sm)
  clear hH5
  refine ⟨Nat.zero_le _, fun L nL => ?_⟩
  generalize hH6 : upd _ L _ = H6
  have hrv2 : H6 rv = some (.lst resv) := by rw [← hH6]; exact same_new nL _ _ hrv
  have hd6 : DrAt H6 st scr := by rw [← hH6]; exact hd5.new (same_new nL)
  have b6 : Bt st H H6 := by rw [← hH6]; exact b5.trans (Bt.same (st := st) (same_new nL))
  have L0 : H L = none := b5.free (hd5.ne_new nL) nL
  have eL : H6 L = some (.lst []) := by rw [← hH6]; exact upd_same
  have Ls : L ≠ st := hd5.ne_new nL
  have Lc : L ≠ scr := hd5.ne_scr nL
  have Lrv : rv ≠ L := ne_of_none hrv nL
  clear hH6
  refine ⟨n, rfl, by omega, by omega, ?_⟩
  obtain ⟨ps, hps⟩ : ∃ ps : Nat, ps = if sty = 1 then spt.toNat else if sty = 3 then 5 else 0 := ⟨_, rfl⟩
  refine for_range (lo := 0) (n := n) (fun i σ' H' => ∃ (y z : Option V) (zs : List Str), σ' = [some (.ref st), some (.int n), some (.str letters), some (.int sty), some (.int sh), some (.int code), some (.int spt), some (.str bs), y, some (.ref rv), some (.ref L), z] ∧ H' = upd H6 L (.lst (zs.map V.str)) ∧ zs.length = i ∧
    ∀ (j : Nat) (z : Str), zs[j]? = some z → Lt z ps (97 + ((sh + 7 * (j : Int)) % 26).toNat) ∧ inV (.str z) resv = false) ?_ ?_ ?_
  · exact ⟨_, _, [], rfl, (upd_id eL).symm, rfl, fun j z h => nomatch h⟩
  · rintro i σ' H' hi ⟨y, z, zs, rfl, rfl, hzl, hzs⟩
    have r0 := Int.emod_nonneg (sh + 7 * (0 + (i : Int))) (by decide : (26 : Int) ≠ 0)
    have r1 := Int.emod_lt_of_pos (sh + 7 * (0 + (i : Int))) (by decide : (0 : Int) < 26)
    refine ⟨.inl (.inl ⟨by decide, by decide⟩), by decide, ?_⟩
    refine ⟨line_of (by decide +kernel), _, letter_at r0 r1, ?_⟩
    have hcm := letter_mem (i := ((sh + 7 * (0 + (i : Int))) % 26).toNat) (by omega)
    rw [Int.zero_add] at hcm r0 r1 ⊢
    generalize hcc : 97 + ((sh + 7 * (i : Int)) % 26).toNat = ch at hcm ⊢
    have hrv3 : (upd H6 L (.lst (zs.map V.str))) rv = some (.lst resv) := by rw [upd_ne Lrv]; exact hrv2
    refine ⟨fun σ' H' => ∃ w : Str, σ' = [some (.ref st), some (.int n), some (.str letters), some (.int sty), some (.int sh), some (.int code), some (.int spt), some (.str bs), some (.int i), some (.ref rv), some (.ref L), some (.str w)] ∧ H' = upd H6 L (.lst (zs.map V.str)) ∧ (sty = 1 → Lt w ps ch) ∧ (sty ≠ 1 → w = ⟨#[ch]⟩), ?_, ?_⟩
    · refine ite2 (fun e => ?_) (fun e => ?_)
      · have e : sty = 1 := of_decide_eq_true e
        have l1 := cutS_length bs none (some spt)
        have l2 := cutS_length bs (some spt) none
        have e1 := cutS_take bs (k := spt.toNat)
        have e2 := cutS_drop bs (k := spt.toNat)
        rw [show ((spt.toNat : Nat) : Int) = spt by omega] at e1 e2
        refine ⟨_, rfl, line_of (by omega), line_of (by rw [one_len]; omega), _, rfl, line_of (by omega), line_of (by rw [len_add, one_len]; omega), ?_⟩
        refine ⟨_, rfl, rfl, fun _ => ⟨fun d hd => ?_, ?_, ?_⟩, fun h => absurd e h⟩
        · rw [cps_add, cps_add, e1, e2, one_cps] at hd
          rcases List.mem_append.mp hd with h | h
          · rcases List.mem_append.mp h with h | h
            · exact ha d (List.mem_of_mem_take h)
            · rw [List.mem_singleton.mp h]; exact hcm
          · exact ha d (List.mem_of_mem_drop h)
        · have hps1 : ps = spt.toNat := by rw [hps, if_pos e]
          rw [cps_add, cps_add, e1, e2, one_cps, hps1, List.append_assoc, List.getElem?_append_right (by rw [List.length_take]; omega), List.length_take, hbl, Nat.min_eq_left (by omega), Nat.sub_self]
          rfl
        · rw [len_add, len_add, ← len_cps (cutS bs none (some spt)), ← len_cps (cutS bs (some spt) none), e1, e2, one_len, List.length_take, List.length_drop]
          omega
      · have e : ¬ sty = 1 := of_decide_eq_false (Bool.eq_false_iff.mpr e)
        exact ⟨_, rfl, rfl, fun h => absurd h e, fun _ => rfl⟩
    rintro σ' H' ⟨w, rfl, rfl, g1, g2⟩
    refine ⟨fun σ' H' => ∃ w : Str, σ' = [some (.ref st), some (.int n), some (.str letters), some (.int sty), some (.int sh), some (.int code), some (.int spt), some (.str bs), some (.int i), some (.ref rv), some (.ref L), some (.str w)] ∧ H' = upd H6 L (.lst (zs.map V.str)) ∧ (sty ≠ 3 → Lt w ps ch) ∧ (sty = 3 → w = ⟨#[ch]⟩), ?_, ?_⟩
    · refine ite2 (fun e => ?_) (fun e => ?_)
      · have e : sty = 2 := of_decide_eq_true e
        have hw := g2 (by omega)
        subst hw
        have r2 := Int.emod_nonneg (3 * (i : Int) + spt) (by decide : (7 : Int) ≠ 0)
        have e1 := cutS_take bs (k := ((3 * (i : Int) + spt) % 7).toNat)
        rw [show ((((3 * (i : Int) + spt) % 7).toNat : Nat) : Int) = (3 * (i : Int) + spt) % 7 by omega] at e1
        have l1 := cutS_length bs none (some ((3 * (i : Int) + spt) % 7))
        refine ⟨.inl (.inl ⟨by decide, by decide⟩), by decide, _, rfl, line_of (by omega), line_of (by rw [one_len]; omega), ?_⟩
        refine ⟨_, rfl, rfl, fun _ => ⟨fun d hd => ?_, ?_, ?_⟩, fun h => absurd h (by omega)⟩
        · rw [cps_add, e1, one_cps] at hd
          rcases List.mem_append.mp hd with h | h
          · rw [List.mem_singleton.mp h]; exact hcm
          · exact ha d (List.mem_of_mem_take h)
        · have hps1 : ps = 0 := by rw [hps, if_neg (by omega), if_neg (by omega)]
          rw [cps_add, one_cps, hps1]
          rfl
        · rw [len_add, one_len]
          omega
      · have e : ¬ sty = 2 := of_decide_eq_false (Bool.eq_false_iff.mpr e)
        refine ⟨w, rfl, rfl, fun h3 => ?_, fun h3 => g2 (by omega)⟩
        by_cases h1 : sty = 1
        · exact g1 h1
        · have hw := g2 h1
          subst hw
          refine ⟨fun d hd => ?_, ?_, by rw [one_len]; decide⟩
          · rw [List.mem_singleton.mp hd]; exact hcm
          · have hps1 : ps = 0 := by rw [hps, if_neg h1, if_neg h3]
            rw [hps1]
            rfl
    rintro σ' H' ⟨w, rfl, rfl, g1, g2⟩
    refine ⟨fun σ' H' => ∃ w : Str, σ' = [some (.ref st), some (.int n), some (.str letters), some (.int sty), some (.int sh), some (.int code), some (.int spt), some (.str bs), some (.int i), some (.ref rv), some (.ref L), some (.str w)] ∧ H' = upd H6 L (.lst (zs.map V.str)) ∧ Lt w ps ch, ?_, ?_⟩
    · refine ite2 (fun e => ?_) (fun e => ?_)
      · have e : sty = 3 := of_decide_eq_true e
        have hw := g2 e
        subst hw
        have e1 := cutS_take bs (k := 5)
        have l1 := cutS_length bs none (some 5)
        refine ⟨_, rfl, line_of (by omega), line_of (by rw [one_len]; omega), line_of (by rw [len_add, one_len]; omega), ?_⟩
        refine ⟨_, rfl, rfl, fun d hd => ?_, ?_, ?_⟩
        · rw [cps_add, cps_add, show (cutS bs none (some (5 : Int))).cps.toList = bs.cps.toList.take 5 from e1, one_cps] at hd
          rcases List.mem_append.mp hd with h | h
          · rcases List.mem_append.mp h with h | h
            · exact ha d (List.mem_of_mem_take h)
            · rw [List.mem_singleton.mp h]; exact hcm
          · exact ha d h
        · have hps1 : ps = 5 := by rw [hps, if_neg (by omega), if_pos e]
          rw [cps_add, cps_add, show (cutS bs none (some (5 : Int))).cps.toList = bs.cps.toList.take 5 from e1, one_cps, hps1, List.append_assoc, List.getElem?_append_right (by rw [List.length_take]; omega), List.length_take, hbl]
          rfl
        · rw [len_add, len_add, ← len_cps (cutS bs none (some (5 : Int))), show (cutS bs none (some (5 : Int))).cps.toList = bs.cps.toList.take 5 from e1, one_len, List.length_take]
          omega
      · have e : ¬ sty = 3 := of_decide_eq_false (Bool.eq_false_iff.mpr e)
        exact ⟨w, rfl, rfl, g1 e⟩
    rintro σ' H' ⟨w, rfl, rfl, g1⟩
    refine ⟨fun σ' H' => ∃ w : Str, σ' = [some (.ref st), some (.int n), some (.str letters), some (.int sty), some (.int sh), some (.int code), some (.int spt), some (.str bs), some (.int i), some (.ref rv), some (.ref L), some (.str w)] ∧ H' = upd H6 L (.lst (zs.map V.str)) ∧ Lt w ps ch ∧ inV (.str w) resv = false, ?_, ?_⟩
    · refine ⟨_, .inl (SqL.of hrv3), rfl, rfl, ?_⟩
      refine ite2 (fun e => ?_) (fun e => ?_)
      · have e : inV (.str w) resv = true := e
        obtain ⟨z1, z2⟩ := resv_z e
        exact ⟨line_of (by show w.length + 1 ≤ _; omega), _, rfl, rfl, g1.z z2, z1⟩
      · exact ⟨w, rfl, rfl, g1, Bool.eq_false_iff.mpr e⟩
    rintro σ' H' ⟨w, rfl, rfl, g1, gr⟩
    refine ⟨.inl ⟨rfl, _, SqL.of upd_same⟩, L, _, _, rfl, rfl, upd_same, line_lt (by rw [List.length_map]; omega), ?_⟩
    refine ⟨_, _, zs ++ [w], rfl, ?_, by rw [List.length_append, hzl]; rfl, fun j z hj => ?_⟩
    · rw [upd_upd, List.map_append]
      rfl
    · by_cases h : j < zs.length
      · rw [List.getElem?_append_left h] at hj
        exact hzs j z hj
      · rw [List.getElem?_append_right (by omega)] at hj
        have hj0 : j - zs.length = 0 := by
          have := (List.getElem?_eq_some_iff.mp hj).1
          rw [List.length_singleton] at this
          omega
        rw [hj0] at hj
        cases hj
        rw [show j = i by omega, hcc]
        exact ⟨g1, gr⟩
  · rintro σ' H' ⟨y, z, zs, rfl, rfl, hzl, hzs⟩
    refine q _ L zs ?_ (hd6.at Ls Lc) L0 upd_same (by omega) (fun z hz => ?_) ?_
    · intro b o nb hb
      rw [upd_ne (ne_of_none hb L0)]
      exact b6 b o nb hb
    · obtain ⟨j, hj, e⟩ := List.getElem_of_mem hz
      obtain ⟨h1, h2⟩ := hzs j z (by rw [List.getElem?_eq_getElem hj, e])
      exact ⟨h1.name h2, h1.2.2⟩
    · show List.Pairwise (· ≠ ·) zs
      rw [List.pairwise_iff_getElem]
      intro i j hi hj hij e
      have ej : zs[j]? = some zs[j] := List.getElem?_eq_getElem hj
      have ei : zs[i]? = some zs[j] := by rw [← e]; exact List.getElem?_eq_getElem hi
      obtain ⟨h1, _⟩ := hzs i _ ei
      obtain ⟨h2, _⟩ := hzs j _ ej
      have := h1.2.1.symm.trans h2.2.1
      have := Option.some.inj this
      omega
end
section
variable {P : Program} {w : World} {K : PySem.W.Frag} {mg : Str → Option Value} {base : Heap}
variable {a_BadRow a_ElseputError a_NoRow a_Table a_Taken a_UnknownField a_UnknownKey a_UnknownName : Addr}
/-! ### _law_same -/
def sp__law_is_int (K : PySem.W.Frag) : Sp := fun vs H Q _ => ∃ i : Int, vs = [.int i] ∧ Q (.bl true) H
theorem len__law_is_int {vs : List V} {H : Hp} {Q : VK} {E : XK} (h : sp__law_is_int K vs H Q E) : vs.length = 1 := by
  obtain ⟨_, rfl, _⟩ := h
  rfl
theorem ok__law_is_int {f : Addr} {fd : FuncData} (F : Fun K "_law_is_int" "_law_is_int" s__law_is_int f fd) (T : Gs K mg a_BadRow a_ElseputError a_NoRow a_Table a_Taken a_UnknownField a_UnknownKey a_UnknownName) : FnOk P w K mg base CX0 1 f fd ["_law_thing"] (sp__law_is_int K) := by
  refine F.ok sc__law_is_int (fun vs H Q E h => len__law_is_int h) (fun cdv A outer s H vs Q E hr h => ?_)
  obtain ⟨i, rfl, q⟩ := h
  refine ⟨_, (pss_one (ps_ret (pe_andM (pe_callB (isiK K) (by rfl) T.z_isinstance (by decide +kernel) (pa_cons (v_ 0) (pa_cons (pe_bltn (v := .ty "int") (u := .type "int") (by rfl) T.z_int (by decide +kernel) rfl) pa_nil))) (pe_one (pe_notM (pe_callB (isiK K) (by rfl) T.z_isinstance (by decide +kernel) (pa_cons (v_ 0) (pa_cons (pe_bltn (v := .ty "bool") (u := .type "bool") (by rfl) T.z_bool (by decide +kernel) rfl) pa_nil)))))))), ?_⟩
  refine ⟨_, _, _, _, true, rfl, .ty _, .base (.int i), kit_ty (by decide +kernel), ?_⟩
  exact ⟨_, _, _, _, false, rfl, .ty _, .base (.int i), kit_ty (by decide +kernel), q⟩
def Fl (x : V) : Prop := (∃ i : Int, x = .int i) ∨ (∃ z : Str, x = .str z) ∨ (∃ b : Bool, x = .bl b) ∨ x = .non
def SameV (K : PySem.W.Frag) (H : Hp) : Nat → V → V → Prop
  | 0, _, _ => False
  | n + 1, x, y => (x = y ∧ Fl y) ∨ (∃ (p q : Addr) (xs ys : List V), x = .ref p ∧ y = .ref q ∧ SqT K H p xs ∧ SqT K H q ys ∧ xs.length = ys.length ∧ ys.length ≤ 1000 ∧ ∀ (i : Nat) (a b : V), xs[i]? = some a → ys[i]? = some b → SameV K H n a b) ∨
      (∃ (p q : Addr) (xs ys : List V), x = .ref p ∧ y = .ref q ∧ H p = some (.lst xs) ∧ H q = some (.lst ys) ∧ xs.length = ys.length ∧ ys.length ≤ 1000 ∧ ∀ (i : Nat) (a b : V), xs[i]? = some a → ys[i]? = some b → SameV K H n a b) ∨
      ∃ (p q : Addr) (ks ls : List (Key × V)), x = .ref p ∧ y = .ref q ∧ H p = some (.dK ks) ∧ H q = some (.dK ls) ∧ ks.length = ls.length ∧ n ≠ 0 ∧ ∀ (i : Nat) (k : Key) (v : V), ls[i]? = some (k, v) → ∃ u : V, Fl u ∧ valV ls k = some u ∧ valV ks k = some u
theorem same_fl {H : Hp} {n : Nat} {x : V} (h : Fl x) : SameV K H (n + 1) x x := .inl ⟨rfl, h⟩
def spSame (n : Nat) : PySem.W.Frag → Sp := fun K vs H Q _ => ∃ x y : V, vs = [x, y] ∧ SameV K H n x y ∧ Q (.bl true) H
theorem len_same {n : Nat} {vs : List V} {H : Hp} {Q : VK} {E : XK} (h : spSame n K vs H Q E) : vs.length = 2 := by
  obtain ⟨_, _, rfl, _⟩ := h
  rfl
theorem same_step {n k : Nat} {f : Addr} {fd : FuncData} {f__law_is_int : Addr} {fd__law_is_int : FuncData} (F : Fun K "_law_same" "_law_same" s__law_same f fd) (T : Gs K mg a_BadRow a_ElseputError a_NoRow a_Table a_Taken a_UnknownField a_UnknownKey a_UnknownName)
    (c__law_is_int : Cal P w K mg base CX0 1 "_law_is_int" f__law_is_int fd__law_is_int ["_law_thing"] (sp__law_is_int K)) (c__law_same : Cal P w K mg base CX0 k "_law_same" f fd ["_law_actual", "_law_due"] (spSame n K)) (hk : 1 ≤ k) : FnOk P w K mg base CX0 (k + 1) f fd ["_law_actual", "_law_due"] (spSame (n + 1) K) := by
  refine F.ok sc__law_same (fun vs H Q E h => len_same h) (fun cdv A outer s H vs Q E hr h => ?_)
  obtain ⟨x, y, rfl, h, q⟩ := h
  refine ⟨_, (pss_cons (ps_if (pt_c op_isM (v_ 1) pe_non) (pss_one (ps_ret (pe_c op_isM (v_ 0) pe_non))) pss_nil) (pss_cons (ps_if (pt_c op_isM (v_ 1) pe_bl) (pss_one (ps_ret (pe_c op_isM (v_ 0) pe_bl))) pss_nil) (pss_cons (ps_if (pt_c op_isM (v_ 1) pe_bl) (pss_one (ps_ret (pe_c op_isM (v_ 0) pe_bl))) pss_nil) (pss_cons (ps_if (pt_t K (pe_callB (isiK K) (by rfl) T.z_isinstance (by decide +kernel) (pa_cons (v_ 1) (pa_cons (pe_bltn (v := .ty "int") (u := .type "int") (by rfl) T.z_int (by decide +kernel) rfl) pa_nil)))) (pss_one (ps_ret (pe_andM (pe_call c__law_is_int.G (hr.mono (by first | decide | omega)) rfl c__law_is_int.m c__law_is_int.kp c__law_is_int.b .nil pass0 (pa_cons (v_ 0) pa_nil)) (pe_one (pe_c (eqK K hr.units) (v_ 0) (v_ 1)))))) pss_nil) (pss_cons (ps_if (pt_t K (pe_callB (isiK K) (by rfl) T.z_isinstance (by decide +kernel) (pa_cons (v_ 1) (pa_cons (pe_bltn (v := .ty "str") (u := .type "str") (by rfl) T.z_str (by decide +kernel) rfl) pa_nil)))) (pss_one (ps_ret (pe_andM (pe_callB (isiK K) (by rfl) T.z_isinstance (by decide +kernel) (pa_cons (v_ 0) (pa_cons (pe_bltn (v := .ty "str") (u := .type "str") (by rfl) T.z_str (by decide +kernel) rfl) pa_nil))) (pe_one (pe_c (eqK K hr.units) (v_ 0) (v_ 1)))))) pss_nil) (pss_cons (ps_if (pt_t K (pe_callB (isiK K) (by rfl) T.z_isinstance (by decide +kernel) (pa_cons (v_ 1) (pa_cons (pe_bltn (v := .ty "dict") (u := .type "dict") (by rfl) T.z_dict (by decide +kernel) rfl) pa_nil)))) (pss_cons (ps_if (PW.pt (pw_or (pt_not (pt_t K (pe_callB (isiK K) (by rfl) T.z_isinstance (by decide +kernel) (pa_cons (v_ 0) (pa_cons (pe_bltn (v := .ty "dict") (u := .type "dict") (by rfl) T.z_dict (by decide +kernel) rfl) pa_nil))))) (pw_or1 (pt_c (neK K hr.units) (pe_callB (lenK K) (by rfl) T.z_len PySem.boot_len (pa_cons (v_ 0) pa_nil)) (pe_callB (lenK K) (by rfl) T.z_len PySem.boot_len (pa_cons (v_ 1) pa_nil)))))) (pss_one (ps_ret pe_bl)) pss_nil) (pss_cons (ps_lock (ps_for PassesOwn.never rfl (pi_keys (v_ 1)) (pg_name (i := 3) sc__law_same.nd rfl (.inl rfl)) (pss_one (ps_if (PW.pt (pw_or (pt_cmp (pc_dnotin (hu_of hr) (v_ 3) (v_ 0))) (pw_or1 (pt_not (pt_t K (pe_call c__law_same.G (hr.mono (by first | decide | omega)) rfl c__law_same.m c__law_same.kp c__law_same.b .nil pass0 (pa_cons (pe_dget (hu_of hr) (v_ 0) (v_ 3) (fun _ _ => rfl)) (pa_cons (pe_dget (hu_of hr) (v_ 1) (v_ 3) (fun _ _ => rfl)) pa_nil)))))))) (pss_one (ps_ret pe_bl)) pss_nil)))) (pss_one (ps_ret pe_bl)))) pss_nil) (pss_cons (ps_if (PW.pt (pw_and (pt_t K (pe_callB (isiK K) (by rfl) T.z_isinstance (by decide +kernel) (pa_cons (v_ 1) (pa_cons (pe_bltn (v := .ty "list") (u := .type "list") (by rfl) T.z_list (by decide +kernel) rfl) pa_nil)))) (pw_and1 (pt_not (pt_t K (pe_callB (isiK K) (by rfl) T.z_isinstance (by decide +kernel) (pa_cons (v_ 0) (pa_cons (pe_bltn (v := .ty "list") (u := .type "list") (by rfl) T.z_list (by decide +kernel) rfl) pa_nil)))))))) (pss_one (ps_ret pe_bl)) pss_nil) (pss_cons (ps_if (PW.pt (pw_and (pt_t K (pe_callB (isiK K) (by rfl) T.z_isinstance (by decide +kernel) (pa_cons (v_ 1) (pa_cons (pe_bltn (v := .ty "tuple") (u := .type "tuple") (by rfl) T.z_tuple (by decide +kernel) rfl) pa_nil)))) (pw_and1 (pt_not (pt_t K (pe_callB (isiK K) (by rfl) T.z_isinstance (by decide +kernel) (pa_cons (v_ 0) (pa_cons (pe_bltn (v := .ty "tuple") (u := .type "tuple") (by rfl) T.z_tuple (by decide +kernel) rfl) pa_nil)))))))) (pss_one (ps_ret pe_bl)) pss_nil) (pss_cons (ps_if (pt_c (neK K hr.units) (pe_callB (lenK K) (by rfl) T.z_len PySem.boot_len (pa_cons (v_ 0) pa_nil)) (pe_callB (lenK K) (by rfl) T.z_len PySem.boot_len (pa_cons (v_ 1) pa_nil))) (pss_one (ps_ret pe_bl)) pss_nil) (pss_cons (ps_for PassesOwn.never rfl (pi_range1 rfl T.z_range (pa_cons (pe_callB (lenK K) (by rfl) T.z_len PySem.boot_len (pa_cons (v_ 1) pa_nil)) pa_nil)) (pg_name (i := 2) sc__law_same.nd rfl (.inl rfl)) (pss_one (ps_if (pt_not (pt_t K (pe_call c__law_same.G (hr.mono (by first | decide | omega)) rfl c__law_same.m c__law_same.kp c__law_same.b .nil pass0 (pa_cons (e_x K (v_ 0) (v_ 2)) (pa_cons (e_x K (v_ 1) (v_ 2)) pa_nil))))) (pss_one (ps_ret pe_bl)) pss_nil))) (pss_one (ps_ret pe_bl)))))))))))), ?_⟩
  rcases h with ⟨rfl, ⟨i, rfl⟩ | ⟨z, rfl⟩ | ⟨c, rfl⟩ | rfl⟩ | ⟨a, b, xs, ys, rfl, rfl, ha, hb, hl, h1, hs⟩ | ⟨a, b, xs, ys, rfl, rfl, ha, hb, hl, h1, hs⟩ | ⟨a, b, ks, ls, rfl, rfl, ha, hb, hl, hn, hs⟩
  · refine ⟨_, _, _, _, true, rfl, .ty _, .base (.int i), kit_ty (by decide +kernel), ?_⟩
    refine ⟨i, rfl, ?_⟩
    have e : decide (i = i) = true := decide_eq_true rfl
    rw [← e] at q
    exact q
  · refine ⟨_, _, _, _, false, rfl, .ty _, .base (.str z), kit_ty (by decide +kernel), ?_⟩
    refine ⟨_, _, _, _, true, rfl, .ty _, .base (.str z), kit_ty (by decide +kernel), ?_⟩
    refine ⟨_, _, _, _, true, rfl, .ty _, .base (.str z), kit_ty (by decide +kernel), ?_⟩
    have e : decide (z = z) = true := decide_eq_true rfl
    rw [← e] at q
    exact q
  · cases c with
    | true => exact q
    | false => exact q
  · exact q
  · have tb := ty_tup hb
    refine ⟨_, _, _, _, false, rfl, .ty _, tb, kit_ty (by decide +kernel), ?_⟩
    refine ⟨_, _, _, _, false, rfl, .ty _, tb, kit_ty (by decide +kernel), ?_⟩
    refine ⟨_, _, _, _, false, rfl, .ty _, tb, kit_ty (by decide +kernel), ?_⟩
    refine ⟨_, _, _, _, false, rfl, .ty _, tb, kit_ty (by decide +kernel), ?_⟩
    refine ⟨_, _, _, _, true, rfl, .ty _, tb, kit_ty (by decide +kernel), ?_⟩
    refine ⟨_, _, _, _, true, rfl, .ty _, ty_tup ha, kit_ty (by decide +kernel), ?_⟩
    refine .inl ⟨_, .inr ha, .inl ⟨_, .inr hb, ?_⟩⟩
    refine ite2 (fun e => ?_) (fun _ => ?_)
    · exact absurd e (by rw [hl]; simp)
    refine .inl ⟨_, .inr hb, _, rfl, by omega, by omega, ?_⟩
    refine for_range (lo := 0) (n := ys.length) (fun i σ' H' => H' = H ∧ ∃ y, σ' = [some (.ref a), some (.ref b), y, none]) ⟨rfl, _, rfl⟩ ?_ ?_
    · rintro i σ' H' hi ⟨rfl, y, rfl⟩
      have ex := List.getElem?_eq_getElem (l := xs) (i := i) (by omega)
      have ey := List.getElem?_eq_getElem (l := ys) hi
      refine ⟨_, .inr ha, xs[i], ?_, _, .inr hb, ys[i], ?_, _, _, rfl, hs i _ _ ex ey, ?_⟩
      · rw [show (0 : Int) + i = ((i : Nat) : Int) by omega]
        exact atI_nat ex
      · rw [show (0 : Int) + i = ((i : Nat) : Int) by omega]
        exact atI_nat ey
      exact ⟨rfl, _, rfl⟩
    · rintro σ' H' ⟨rfl, y, rfl⟩
      exact q
  · have tb : TyX K H (.ref b) (.type "list") := .base (.lst hb)
    refine ⟨_, _, _, _, false, rfl, .ty _, tb, kit_ty (by decide +kernel), ?_⟩
    refine ⟨_, _, _, _, false, rfl, .ty _, tb, kit_ty (by decide +kernel), ?_⟩
    refine ⟨_, _, _, _, false, rfl, .ty _, tb, kit_ty (by decide +kernel), ?_⟩
    refine ⟨_, _, _, _, true, rfl, .ty _, tb, kit_ty (by decide +kernel), ?_⟩
    refine ⟨_, _, _, _, true, rfl, .ty _, .base (.lst ha), kit_ty (by decide +kernel), ?_⟩
    refine ⟨_, _, _, _, false, rfl, .ty _, tb, kit_ty (by decide +kernel), ?_⟩
    refine .inl ⟨_, .inl (SqL.of ha), .inl ⟨_, .inl (SqL.of hb), ?_⟩⟩
    refine ite2 (fun e => ?_) (fun _ => ?_)
    · exact absurd e (by rw [hl]; simp)
    refine .inl ⟨_, .inl (SqL.of hb), _, rfl, by omega, by omega, ?_⟩
    refine for_range (lo := 0) (n := ys.length) (fun i σ' H' => H' = H ∧ ∃ y, σ' = [some (.ref a), some (.ref b), y, none]) ⟨rfl, _, rfl⟩ ?_ ?_
    · rintro i σ' H' hi ⟨rfl, y, rfl⟩
      have ex := List.getElem?_eq_getElem (l := xs) (i := i) (by omega)
      have ey := List.getElem?_eq_getElem (l := ys) hi
      refine ⟨_, .inl (SqL.of ha), xs[i], ?_, _, .inl (SqL.of hb), ys[i], ?_, _, _, rfl, hs i _ _ ex ey, ?_⟩
      · rw [show (0 : Int) + i = ((i : Nat) : Int) by omega]
        exact atI_nat ex
      · rw [show (0 : Int) + i = ((i : Nat) : Int) by omega]
        exact atI_nat ey
      exact ⟨rfl, _, rfl⟩
    · rintro σ' H' ⟨rfl, y, rfl⟩
      exact q
  · have tb : TyX K H (.ref b) (.type "dict") := .base (.dK hb)
    refine ⟨_, _, _, _, false, rfl, .ty _, tb, kit_ty (by decide +kernel), ?_⟩
    refine ⟨_, _, _, _, false, rfl, .ty _, tb, kit_ty (by decide +kernel), ?_⟩
    refine ⟨_, _, _, _, true, rfl, .ty _, tb, kit_ty (by decide +kernel), ?_⟩
    refine ⟨_, _, _, _, true, rfl, .ty _, .base (.dK ha), kit_ty (by decide +kernel), ?_⟩
    refine .inr ⟨_, ha, .inr ⟨_, hb, ?_⟩⟩
    refine ite2 (fun e => absurd e (by rw [hl]; simp)) (fun _ => ?_)
    refine ⟨b, .dK ls, hb, True.intro, fun od => ?_⟩
    refine ⟨b, od, rfl, .inl ⟨ls, upd_same, ?_⟩⟩
    have rb : Rd (upd H b (.frz od (.dK ls))) b (.dK ls) := .inr ⟨od, upd_same⟩
    have ra : ∃ ks', ks' = ks ∧ Rd (upd H b (.frz od (.dK ls))) a (.dK ks') := by
      by_cases e : a = b
      · rw [e, hb] at ha
        cases ha
        exact ⟨_, rfl, e ▸ rb⟩
      · exact ⟨ks, rfl, .inl (by rw [upd_ne e]; exact ha)⟩
    obtain ⟨_, rfl, ra⟩ := ra
    refine for_it walk_keys (fun i σ' H' => H' = upd H b (.frz od (.dK ls)) ∧ ∃ y, σ' = [some (.ref a), some (.ref b), none, y]) ⟨rfl, _, rfl⟩ (fun i σ' H' _ h => by rw [h.1]; exact upd_same) ?_ ?_
    · rintro i x σ' H2 H3 hi ⟨rfl, y, rfl⟩ ⟨rfl, k, v, hk, rfl⟩
      obtain ⟨m, hm, h1, h2⟩ := hs i k v hk
      have ga : DGet (upd H b (.frz od (.dK ls))) a (kV k) (some m) := .inl ⟨_, k, ra, rfl, h2.symm⟩
      have gb : DGet (upd H b (.frz od (.dK ls))) b (kV k) (some m) := .inl ⟨_, k, rb, rfl, h1.symm⟩
      refine ⟨a, _, rfl, ga, _, rfl, ?_⟩
      refine ⟨a, _, rfl, ga, b, _, rfl, gb, _, _, rfl, ?_, ?_⟩
      · cases n with
        | zero => exact absurd rfl hn
        | succ n => exact same_fl hm
      · exact ⟨rfl, _, rfl⟩
    · rintro σ' H2 ⟨rfl, y, rfl⟩
      refine ⟨upd_same, ?_⟩
      rw [upd_upd, upd_id hb]
      exact q
theorem same_all {f : Addr} {fd : FuncData} {f__law_is_int : Addr} {fd__law_is_int : FuncData} (F : Fun K "_law_same" "_law_same" s__law_same f fd) (T : Gs K mg a_BadRow a_ElseputError a_NoRow a_Table a_Taken a_UnknownField a_UnknownKey a_UnknownName)
    (c__law_is_int : Cal P w K mg base CX0 1 "_law_is_int" f__law_is_int fd__law_is_int ["_law_thing"] (sp__law_is_int K)) (b : Binds K fd ["_law_actual", "_law_due"] []) (kp : PySem.W.keepIn K (.ref f) = true) (m : mg "_law_same" = some (.ref f)) :
    ∀ n : Nat, FnOk P w K mg base CX0 (n + 2) f fd ["_law_actual", "_law_due"] (spSame n K)
  | 0 => ⟨fun _ _ _ _ h => len_same h, by
    intro A outer s H args us vs Q E _ _ _ _ h
    obtain ⟨_, _, _, h, _⟩ := h
    exact False.elim h⟩
  | n + 1 => same_step F T c__law_is_int ⟨same_all F T c__law_is_int b kp m n, b, kp, m⟩ (by omega)
def sp__law_same : PySem.W.Frag → Sp := spSame 24
theorem ok__law_same {f : Addr} {fd : FuncData} {f__law_is_int : Addr} {fd__law_is_int : FuncData} (F : Fun K "_law_same" "_law_same" s__law_same f fd) (T : Gs K mg a_BadRow a_ElseputError a_NoRow a_Table a_Taken a_UnknownField a_UnknownKey a_UnknownName)
    (c__law_is_int : Cal P w K mg base CX0 1 "_law_is_int" f__law_is_int fd__law_is_int ["_law_thing"] (sp__law_is_int K)) (b : Binds K fd ["_law_actual", "_law_due"] []) (kp : PySem.W.keepIn K (.ref f) = true) (m : mg "_law_same" = some (.ref f)) :
    FnOk P w K mg base CX0 26 f fd ["_law_actual", "_law_due"] (sp__law_same K) := same_all F T c__law_is_int b kp m 24
theorem same_int {H : Hp} {n : Nat} (i : Int) : SameV K H (n + 1) (.int i) (.int i) := same_fl (.inl ⟨i, rfl⟩)
theorem same_str {H : Hp} {n : Nat} (z : Str) : SameV K H (n + 1) (.str z) (.str z) := same_fl (.inr (.inl ⟨z, rfl⟩))
theorem same_bl {H : Hp} {n : Nat} (b : Bool) : SameV K H (n + 1) (.bl b) (.bl b) := same_fl (.inr (.inr (.inl ⟨b, rfl⟩)))
theorem same_tupN {H : Hp} {t u : Addr} {xs ys : List V} {n : Nat} (h1 : SqT K H t xs) (h2 : SqT K H u ys) (hl : xs.length = ys.length) (h4 : ys.length ≤ 1000) (h : ∀ (i : Nat) (a b : V), xs[i]? = some a → ys[i]? = some b → SameV K H n a b) : SameV K H (n + 1) (.ref t) (.ref u) :=
  .inr (.inl ⟨t, u, _, _, rfl, rfl, h1, h2, hl, h4, h⟩)
theorem same_two {H : Hp} {t u : Addr} {w : Str} {x y : V} {m : Nat} (h1 : SqT K H t [.str w, x]) (h2 : SqT K H u [.str w, y]) (h : SameV K H (m + 1) x y) : SameV K H (m + 2) (.ref t) (.ref u) := by
  refine same_tupN h1 h2 rfl (by show 2 ≤ 1000; decide) fun i a b ha hb => ?_
  match i, ha, hb with
  | 0, ha, hb => cases ha; cases hb; exact same_str _
  | 1, ha, hb => cases ha; cases hb; exact h
theorem same_strs {H : Hp} {t u : Addr} {zs : List Str} {n : Nat} (h1 : SqT K H t (zs.map V.str)) (h2 : SqT K H u (zs.map V.str)) (hl : zs.length ≤ 1000) : SameV K H (n + 2) (.ref t) (.ref u) := by
  refine same_tupN h1 h2 rfl (by rw [List.length_map]; exact hl) fun i a b ha hb => ?_
  rw [ha] at hb
  cases hb
  rw [List.getElem?_map] at ha
  obtain ⟨z, hz, rfl⟩ := Option.map_eq_some_iff.mp ha
  exact same_str z
end
section
variable {P : Program} {w : World} {K : PySem.W.Frag} {mg : Str → Option Value} {base : Heap}
variable {a_BadRow a_ElseputError a_NoRow a_Table a_Taken a_UnknownField a_UnknownKey a_UnknownName : Addr}
theorem isName_mem {z : Str} (h : isName z = true) : (∀ c ∈ z.cps.toList, c ∈ letters.cps.toList) ∧ 1 ≤ z.length ∧ z.length ≤ 12 ∧ inV (.str z) resv = false := by
  unfold isName at h
  split at h
  · exact absurd h (by decide)
  · rename_i hc
    rw [Bool.not_eq_true, Bool.or_eq_false_iff, Bool.or_eq_false_iff, decide_eq_false_iff_not, decide_eq_false_iff_not] at hc
    exact ⟨fun c hm => of_decide_eq_true (List.all_eq_true.mp h c hm), by omega, by omega, hc.2⟩
theorem letters_small : ∀ c ∈ letters.cps.toList, c < 16 ^ 8 := by decide +kernel
theorem isName_asc {z : Str} (h : isName z = true) : Asc z := fun c hc => letters_small c ((isName_mem h).1 c hc)
theorem len_spE {C : Addr} {ok : List V → Prop} {fs : List V → List (Str × V)} {n : Nat} (hn : ∀ ws, ok ws → ws.length = n) {vs : List V} {H : Hp} {Q : VK} {E : XK} (h : spE C ok fs vs H Q E) : vs.length = n + 1 := by
  obtain ⟨a, ws, rfl, h, _⟩ := h
  rw [List.length_cons, hn _ h]
theorem log_200 {i : Int} (h : i.natAbs < 2 ^ 200) : i.natAbs.log2 < 1920 := by
  by_cases hz : i.natAbs = 0
  · rw [hz]
    decide
  · exact (Nat.log2_lt hz).mpr (Nat.lt_of_lt_of_le h (Nat.pow_le_pow_right (by decide) (by decide)))
theorem ok_BadRow {C f cc cda : Addr} {doc pm ct oc ccl cl : Value} {od cdd cld : Option Addr} {osl ccs csl : Array (Option Value)} {vs0 : Array Value} {file : Str} {tf : Tok} {cdD : ClassData}
    (X : ExK K C f []) (lk : K.lookup f = some ⟨oc, od, .func (PySem.W.fnX "__init__" "BadRow.__init__" (defArgs s_BadRow) (defBody s_BadRow) (defScope s_BadRow) [("__class__", cc)] .none .none doc pm none (.ref cda) ct), osl⟩)
    (hcd : PySem.W.codeIn K (.ref cda) "BadRow.__init__" = true) (hcode : K.lookup cda = some ⟨ccl, cdd, .fields vs0, ccs⟩) (hvs : vs0[2]? = some (.str file tf)) (hfile : ((P.main.file : Str) == file) = true)
    (hcell : K.lookup cc = some ⟨cl, cld, .cell (some (.ref C)), csl⟩) (hD : PySem.W.clsIn K C = some cdD) (hsuper : mg "super" = none) (hop : PySem.W.nsIn K PySem.cStatics "thirdparty.any" = some none) (htop : (P.main.scope.names.lookup ("super" : Str)).isSome = false) :
    FnOk P w K mg base CX0 1 f (PySem.W.fnX "__init__" "BadRow.__init__" (defArgs s_BadRow) (defBody s_BadRow) (defScope s_BadRow) [("__class__", cc)] .none .none doc pm none (.ref cda) ct) ["self"] (spE0 C) := by
  refine fn_super lk hcd sc_BadRow hcode hvs hfile hcell hD hsuper hop rfl rfl rfl htop rfl (fun vs H Q E h => by obtain ⟨_, rfl, _⟩ := h; rfl) (fun A outer s H vs Q E hr h => ?_) (fun _ => rfl) (fun _ => rfl) (fun _ => rfl)
  obtain ⟨a, rfl, ea, q⟩ := h
  exact ⟨a, C, _, _, rfl, ea, X.oex, X.mro, X.sup, X.subV, pa_cons pe_str pa_nil, pss_nil, ea, (by show 1 ≤ 1000; decide), q⟩
def okx_NoRow (ws : List V) : Prop := ∃ l : Int, ws = [.int l] ∧ l.natAbs < 2 ^ 200
def fs_NoRow (ws : List V) : List (Str × V) := match ws with | [l] => [("row", l)] | _ => []
theorem ok_NoRow {C f cc cda : Addr} {doc pm ct oc ccl cl : Value} {od cdd cld : Option Addr} {osl ccs csl : Array (Option Value)} {vs0 : Array Value} {file : Str} {tf : Tok} {cdD : ClassData}
    (X : ExK K C f ["row"]) (lk : K.lookup f = some ⟨oc, od, .func (PySem.W.fnX "__init__" "NoRow.__init__" (defArgs s_NoRow) (defBody s_NoRow) (defScope s_NoRow) [("__class__", cc)] .none .none doc pm none (.ref cda) ct), osl⟩)
    (hcd : PySem.W.codeIn K (.ref cda) "NoRow.__init__" = true) (hcode : K.lookup cda = some ⟨ccl, cdd, .fields vs0, ccs⟩) (hvs : vs0[2]? = some (.str file tf)) (hfile : ((P.main.file : Str) == file) = true)
    (hcell : K.lookup cc = some ⟨cl, cld, .cell (some (.ref C)), csl⟩) (hD : PySem.W.clsIn K C = some cdD) (hsuper : mg "super" = none) (hop : PySem.W.nsIn K PySem.cStatics "thirdparty.any" = some none) (htop : (P.main.scope.names.lookup ("super" : Str)).isSome = false) :
    FnOk P w K mg base CX0 1 f (PySem.W.fnX "__init__" "NoRow.__init__" (defArgs s_NoRow) (defBody s_NoRow) (defScope s_NoRow) [("__class__", cc)] .none .none doc pm none (.ref cda) ct) ["self", "row"] (spE C okx_NoRow fs_NoRow) := by
  refine fn_super lk hcd sc_NoRow hcode hvs hfile hcell hD hsuper hop rfl rfl rfl htop rfl (fun vs H Q E h => len_spE (n := 1) (fun ws h => by obtain ⟨_, rfl, _⟩ := h; rfl) h) (fun A outer s H vs Q E hr h => ?_) (fun _ => rfl) (fun _ => rfl) (fun _ => rfl)
  obtain ⟨a, ws, rfl, ⟨l, rfl, l0⟩, ea, q⟩ := h
  refine ⟨a, C, _, _, rfl, ea, X.oex, X.mro, X.sup, X.subV, pa_cons (pe_joined (.cons pe_str (.cons (pe_fmt (v_ 1)) .nil))) pa_nil, pss_one (ps_ost (v_ 0) (v_ 1)), ?_⟩
  have tl := int_text_len_1921 (log_200 l0)
  have z0 : Str.empty.length = 0 := rfl
  have z1 : (Str.ofString "no row ").length = 7 := rfl
  refine ⟨_, rfl, line_of (by rw [len_add]; omega), .inr ⟨_, rfl, log_200 l0, _, rfl, line_of (by rw [len_add, len_add]; omega), ?_⟩⟩
  refine ⟨ea, (by show 1 ≤ 1000; decide), ?_⟩
  exact ⟨a, C, rfl, X.oex, X.no _ (by simp), .inl ⟨ea, ost1 ea fun dx H' n ne e1 e2 hh => q dx _ n ne e1 e2 hh⟩⟩
def okx_UnknownKey (ws : List V) : Prop := ∃ z : Str, ws = [.str z] ∧ z.length ≤ 1000 ∧ Asc z
def fs_UnknownKey (ws : List V) : List (Str × V) := match ws with | [l] => [("name", l)] | _ => []
theorem ok_UnknownKey {C f cc cda D : Addr} {doc pm ct oc ccl cl : Value} {od cdd cld : Option Addr} {osl ccs csl : Array (Option Value)} {vs0 : Array Value} {file : Str} {tf : Tok} {cdD : ClassData}
    (X : ExI K C D f ["name"]) (lk : K.lookup f = some ⟨oc, od, .func (PySem.W.fnX "__init__" "UnknownName.__init__" (defArgs s_UnknownKey) (defBody s_UnknownKey) (defScope s_UnknownKey) [("__class__", cc)] .none .none doc pm none (.ref cda) ct), osl⟩)
    (hcd : PySem.W.codeIn K (.ref cda) "UnknownName.__init__" = true) (hcode : K.lookup cda = some ⟨ccl, cdd, .fields vs0, ccs⟩) (hvs : vs0[2]? = some (.str file tf)) (hfile : ((P.main.file : Str) == file) = true)
    (hcell : K.lookup cc = some ⟨cl, cld, .cell (some (.ref D)), csl⟩) (hD : PySem.W.clsIn K D = some cdD) (hsuper : mg "super" = none) (hop : PySem.W.nsIn K PySem.cStatics "thirdparty.any" = some none) (htop : (P.main.scope.names.lookup ("super" : Str)).isSome = false) :
    FnOk P w K mg base CX0 1 f (PySem.W.fnX "__init__" "UnknownName.__init__" (defArgs s_UnknownKey) (defBody s_UnknownKey) (defScope s_UnknownKey) [("__class__", cc)] .none .none doc pm none (.ref cda) ct) ["self", "name"] (spE C okx_UnknownKey fs_UnknownKey) := by
  refine fn_super lk hcd sc_UnknownKey hcode hvs hfile hcell hD hsuper hop rfl rfl rfl htop rfl (fun vs H Q E h => len_spE (n := 1) (fun ws h => by obtain ⟨_, rfl, _⟩ := h; rfl) h) (fun A outer s H vs Q E hr h => ?_) (fun _ => rfl) (fun _ => rfl) (fun _ => rfl)
  obtain ⟨a, ws, rfl, ⟨l, rfl, l0, l1⟩, ea, q⟩ := h
  refine ⟨a, C, _, _, rfl, ea, X.oex, X.mro, X.sup, X.subV, pa_cons (pe_joined (.cons pe_str (.cons (pe_fmtR (v_ 1)) .nil))) pa_nil, pss_one (ps_ost (v_ 0) (v_ 1)), ?_⟩
  have tl := repr_le l1 l0
  have z0 : Str.empty.length = 0 := rfl
  have z1 : (Str.ofString "unknown: ").length = 9 := rfl
  refine ⟨_, rfl, line_of (by rw [len_add]; omega), .inl ⟨_, rfl, line_of (by omega), _, rfl, line_of (by rw [len_add, len_add]; omega), ?_⟩⟩
  refine ⟨ea, (by show 1 ≤ 1000; decide), ?_⟩
  exact ⟨a, C, rfl, X.oex, X.no _ (by simp), .inl ⟨ea, ost1 ea fun dx H' n ne e1 e2 hh => q dx _ n ne e1 e2 hh⟩⟩
def okx_UnknownField (ws : List V) : Prop := ∃ z : Str, ws = [.str z] ∧ z.length ≤ 1000 ∧ Asc z
def fs_UnknownField (ws : List V) : List (Str × V) := match ws with | [l] => [("name", l)] | _ => []
theorem ok_UnknownField {C f cc cda D : Addr} {doc pm ct oc ccl cl : Value} {od cdd cld : Option Addr} {osl ccs csl : Array (Option Value)} {vs0 : Array Value} {file : Str} {tf : Tok} {cdD : ClassData}
    (X : ExI K C D f ["name"]) (lk : K.lookup f = some ⟨oc, od, .func (PySem.W.fnX "__init__" "UnknownName.__init__" (defArgs s_UnknownField) (defBody s_UnknownField) (defScope s_UnknownField) [("__class__", cc)] .none .none doc pm none (.ref cda) ct), osl⟩)
    (hcd : PySem.W.codeIn K (.ref cda) "UnknownName.__init__" = true) (hcode : K.lookup cda = some ⟨ccl, cdd, .fields vs0, ccs⟩) (hvs : vs0[2]? = some (.str file tf)) (hfile : ((P.main.file : Str) == file) = true)
    (hcell : K.lookup cc = some ⟨cl, cld, .cell (some (.ref D)), csl⟩) (hD : PySem.W.clsIn K D = some cdD) (hsuper : mg "super" = none) (hop : PySem.W.nsIn K PySem.cStatics "thirdparty.any" = some none) (htop : (P.main.scope.names.lookup ("super" : Str)).isSome = false) :
    FnOk P w K mg base CX0 1 f (PySem.W.fnX "__init__" "UnknownName.__init__" (defArgs s_UnknownField) (defBody s_UnknownField) (defScope s_UnknownField) [("__class__", cc)] .none .none doc pm none (.ref cda) ct) ["self", "name"] (spE C okx_UnknownField fs_UnknownField) := by
  refine fn_super lk hcd sc_UnknownField hcode hvs hfile hcell hD hsuper hop rfl rfl rfl htop rfl (fun vs H Q E h => len_spE (n := 1) (fun ws h => by obtain ⟨_, rfl, _⟩ := h; rfl) h) (fun A outer s H vs Q E hr h => ?_) (fun _ => rfl) (fun _ => rfl) (fun _ => rfl)
  obtain ⟨a, ws, rfl, ⟨l, rfl, l0, l1⟩, ea, q⟩ := h
  refine ⟨a, C, _, _, rfl, ea, X.oex, X.mro, X.sup, X.subV, pa_cons (pe_joined (.cons pe_str (.cons (pe_fmtR (v_ 1)) .nil))) pa_nil, pss_one (ps_ost (v_ 0) (v_ 1)), ?_⟩
  have tl := repr_le l1 l0
  have z0 : Str.empty.length = 0 := rfl
  have z1 : (Str.ofString "unknown: ").length = 9 := rfl
  refine ⟨_, rfl, line_of (by rw [len_add]; omega), .inl ⟨_, rfl, line_of (by omega), _, rfl, line_of (by rw [len_add, len_add]; omega), ?_⟩⟩
  refine ⟨ea, (by show 1 ≤ 1000; decide), ?_⟩
  exact ⟨a, C, rfl, X.oex, X.no _ (by simp), .inl ⟨ea, ost1 ea fun dx H' n ne e1 e2 hh => q dx _ n ne e1 e2 hh⟩⟩
def okx_Taken (ws : List V) : Prop := ∃ (z : Str) (m : Int), ws = [.str z, .int m] ∧ z.length ≤ 1000 ∧ Asc z ∧ m.natAbs < 2 ^ 200
def fs_Taken (ws : List V) : List (Str × V) := match ws with | [l, m] => [("row", m), ("key", l)] | _ => []
theorem ok_Taken {C f cc cda : Addr} {doc pm ct oc ccl cl : Value} {od cdd cld : Option Addr} {osl ccs csl : Array (Option Value)} {vs0 : Array Value} {file : Str} {tf : Tok} {cdD : ClassData}
    (X : ExK K C f ["key", "row"]) (lk : K.lookup f = some ⟨oc, od, .func (PySem.W.fnX "__init__" "Taken.__init__" (defArgs s_Taken) (defBody s_Taken) (defScope s_Taken) [("__class__", cc)] .none .none doc pm none (.ref cda) ct), osl⟩)
    (hcd : PySem.W.codeIn K (.ref cda) "Taken.__init__" = true) (hcode : K.lookup cda = some ⟨ccl, cdd, .fields vs0, ccs⟩) (hvs : vs0[2]? = some (.str file tf)) (hfile : ((P.main.file : Str) == file) = true)
    (hcell : K.lookup cc = some ⟨cl, cld, .cell (some (.ref C)), csl⟩) (hD : PySem.W.clsIn K C = some cdD) (hsuper : mg "super" = none) (hop : PySem.W.nsIn K PySem.cStatics "thirdparty.any" = some none) (htop : (P.main.scope.names.lookup ("super" : Str)).isSome = false) :
    FnOk P w K mg base CX0 1 f (PySem.W.fnX "__init__" "Taken.__init__" (defArgs s_Taken) (defBody s_Taken) (defScope s_Taken) [("__class__", cc)] .none .none doc pm none (.ref cda) ct) ["self", "key", "row"] (spE C okx_Taken fs_Taken) := by
  refine fn_super lk hcd sc_Taken hcode hvs hfile hcell hD hsuper hop rfl rfl rfl htop rfl (fun vs H Q E h => len_spE (n := 2) (fun ws h => by obtain ⟨_, _, rfl, _⟩ := h; rfl) h) (fun A outer s H vs Q E hr h => ?_) (fun _ => rfl) (fun _ => rfl) (fun _ => rfl)
  obtain ⟨a, ws, rfl, ⟨l, m, rfl, l0, l1, m0⟩, ea, q⟩ := h
  refine ⟨a, C, _, _, rfl, ea, X.oex, X.mro, X.sup, X.subV, pa_cons (pe_joined (.cons pe_str (.cons (pe_fmtR (v_ 1)) (.cons pe_str (.cons (pe_fmt (v_ 2)) .nil))))) pa_nil, pss_cons (ps_ost (v_ 0) (v_ 1)) (pss_one (ps_ost (v_ 0) (v_ 2))), ?_⟩
  have tl := repr_le l1 l0
  have tm := int_text_len_1921 (log_200 m0)
  have z0 : Str.empty.length = 0 := rfl
  have z1 : (Str.ofString "taken under ").length = 12 := rfl
  have z2 : (Str.ofString " by row ").length = 8 := rfl
  refine ⟨_, rfl, line_of (by rw [len_add]; omega), .inl ⟨_, rfl, line_of (by omega), _, rfl, line_of (by rw [len_add, len_add]; omega), ?_⟩⟩
  refine ⟨_, rfl, line_of (by rw [len_add, len_add, len_add]; omega), .inr ⟨_, rfl, log_200 m0, _, rfl, line_of (by rw [len_add, len_add, len_add, len_add]; omega), ?_⟩⟩
  refine ⟨ea, (by show 1 ≤ 1000; decide), ?_⟩
  refine ⟨a, C, rfl, X.oex, X.no _ (by simp), .inl ⟨ea, ost1 ea fun dx H' n ne e1 e2 hh => ?_⟩⟩
  refine ⟨a, C, rfl, X.oex, X.no _ (by simp), .inr ⟨dx, _, e1, e2, (by show 1 ≤ 900; decide), ?_⟩⟩
  exact q dx _ n ne (by rw [upd_ne ne.symm]; exact e1) upd_same fun b h1 h2 => by rw [upd_ne h2]; exact hh b h1 h2
end
section
variable {P : Program} {w : World} {K : PySem.W.Frag} {mg : Str → Option Value} {base : Heap}
variable {a_BadRow a_ElseputError a_NoRow a_Table a_Taken a_UnknownField a_UnknownKey a_UnknownName : Addr}
/-! ### rows of objects -/
inductive All2 {α : Type} (R : V → α → Prop) : List V → List α → Prop
  | nil : All2 R [] []
  | cons {v : V} {a : α} {vs : List V} {as : List α} : R v a → All2 R vs as → All2 R (v :: vs) (a :: as)
theorem All2.imp {α : Type} {R R' : V → α → Prop} (f : ∀ v a, R v a → R' v a) {vs : List V} {as : List α} (h : All2 R vs as) : All2 R' vs as := by
  induction h with
  | nil => exact .nil
  | cons a _ ih => exact .cons (f _ _ a) ih
theorem All2.len {α : Type} {R : V → α → Prop} {vs : List V} {as : List α} (h : All2 R vs as) : vs.length = as.length := by
  induction h with
  | nil => rfl
  | cons _ _ ih => rw [List.length_cons, List.length_cons, ih]
theorem All2.snoc {α : Type} {R : V → α → Prop} {vs : List V} {as : List α} {v : V} {a : α} (h : All2 R vs as) (k : R v a) : All2 R (vs ++ [v]) (as ++ [a]) := by
  induction h with
  | nil => exact .cons k .nil
  | cons b _ ih => exact .cons b ih
theorem All2.app {α : Type} {R : V → α → Prop} {vs us : List V} {as bs : List α} (h : All2 R vs as) (k : All2 R us bs) : All2 R (vs ++ us) (as ++ bs) := by
  induction h with
  | nil => exact k
  | cons b _ ih => exact .cons b ih
theorem All2.at {α : Type} {R : V → α → Prop} {vs : List V} {as : List α} (h : All2 R vs as) : ∀ {i : Nat} {v : V}, vs[i]? = some v → ∃ a, as[i]? = some a ∧ R v a := by
  induction h with
  | nil => intro i v e; simp at e
  | @cons v a vs as h1 _ ih =>
    intro i u e
    cases i with
    | zero => cases e; exact ⟨a, rfl, h1⟩
    | succ i => exact ih e
theorem All2.to {α : Type} {R : V → α → Prop} {vs : List V} {as : List α} (h : All2 R vs as) {i : Nat} {a : α} (e : as[i]? = some a) : ∃ v, vs[i]? = some v ∧ R v a := by
  have l := h.len
  have il := (List.getElem?_eq_some_iff.mp e).1
  obtain ⟨b, e2, hb⟩ := h.at (List.getElem?_eq_getElem (show i < vs.length by omega))
  rw [e] at e2
  cases e2
  exact ⟨_, List.getElem?_eq_getElem (by omega), hb⟩
theorem All2.take {α : Type} {R : V → α → Prop} {vs : List V} {as : List α} (h : All2 R vs as) : ∀ n, All2 R (vs.take n) (as.take n) := by
  induction h with
  | nil => intro n; rw [List.take_nil, List.take_nil]; exact .nil
  | cons a _ ih =>
    intro n
    cases n with
    | zero => exact .nil
    | succ n => exact .cons a (ih n)
theorem All2.drop {α : Type} {R : V → α → Prop} {vs : List V} {as : List α} (h : All2 R vs as) : ∀ n, All2 R (vs.drop n) (as.drop n) := by
  induction h with
  | nil => intro n; rw [List.drop_nil, List.drop_nil]; exact .nil
  | cons a h ih =>
    intro n
    cases n with
    | zero => exact .cons a h
    | succ n => exact ih n
theorem All2.rev {α : Type} {R : V → α → Prop} {vs : List V} {as : List α} (h : All2 R vs as) : All2 R vs.reverse as.reverse := by
  induction h with
  | nil => exact .nil
  | cons a _ ih => rw [List.reverse_cons, List.reverse_cons]; exact ih.snoc a
def kS (z : Str) : Key := .inr z
theorem kS_inj {a b : Str} (h : kS a = kS b) : a = b := Sum.inr.inj h
abbrev Kvs := List (Key × V)
abbrev TRow := Kvs × Kvs
/-- a row's dicts and what they hold -/
structure Tr where
  p : Addr
  c : Addr
  r : TRow
def RowAt (H : Hp) (v : V) (x : Tr) : Prop := ∃ t, v = .ref t ∧ H t = some (.tup [.ref x.p, .ref x.c]) ∧ H x.p = some (.dK x.r.1) ∧ H x.c = some (.dK x.r.2)
theorem RowAt.same {H H' : Hp} {v : V} {x : Tr} (h : RowAt H v x) (s : Same H H') : RowAt H' v x := by
  obtain ⟨t, e, h1, h2, h3⟩ := h
  exact ⟨t, e, s _ _ h1, s _ _ h2, s _ _ h3⟩
def hits (k : Str) (i : Int) (r : TRow) : Bool := match valV r.1 (kS k) with
  | some (.int j) => decide (j = i)
  | _ => false
def firstAt (rows : List TRow) (k : Str) (i : Int) : Option Nat := rows.findIdx? (hits k i)
def Ints (l : Kvs) : Prop := ∀ q ∈ l, ∃ i : Int, q.2 = .int i
/-- what a table's first rows are -/
def FrOk (kvs : List (List Key × V)) (rows : List TRow) : Prop := (∀ k i, valV kvs [kS k, .inl i] = (firstAt rows k i).map fun (j : Nat) => V.int (j : Int)) ∧ kvs.length ≤ 4 * rows.length
structure RowOk (ks fs : List Str) (r : TRow) : Prop where
  pk : ∃ zs, r.1.map Prod.fst = zs.map kS ∧ zs.Sublist ks ∧ zs ≠ []
  ck : r.2.map Prod.fst = fs.map kS
  pi : Ints r.1
  ci : Ints r.2
def fpT (L F : Addr) (rows : List Tr) : List Addr := L :: F :: rows.flatMap fun x => [x.p, x.c]
def TbAt (K : PySem.W.Frag) (H : Hp) (a L F : Addr) (ks fs : List Str) (rows : List Tr) : Prop := ∃ (C dx t u : Addr) (vs : List V) (kvs : List (List Key × V)), PySem.W.nsIn K mainGlobals "Table" = some (some (.ref C)) ∧ H a = some (.ins C dx [("key_names", .ref t), ("field_names", .ref u), ("_rows", .ref L), ("_first_rows", .ref F)]) ∧
  H t = some (.tup (ks.map V.str)) ∧ H u = some (.tup (fs.map V.str)) ∧ H L = some (.lst vs) ∧ All2 (RowAt H) vs rows ∧ H F = some (.dT kvs) ∧ FrOk kvs (rows.map (·.r))
/-- what may be written at all -/
def MutO : Option HO → Prop
  | some (.tup _) => False
  | some (.ins _ _ _) => False
  | _ => True
def Fr (N : Addr → Prop) (H H' : Hp) : Prop := ∀ b o, ¬ N b → H b = some o → H' b = some o
theorem Fr.same {N : Addr → Prop} {H H' : Hp} (s : Same H H') : Fr N H H' := fun b o _ h => s b o h
theorem Fr.trans {N : Addr → Prop} {H H1 H2 : Hp} (a : Fr N H H1) (b : Fr N H1 H2) : Fr N H H2 := fun c o n h => b c o n (a c o n h)
theorem Fr.bt {x : Addr} {N : Addr → Prop} {H H' : Hp} (b : Bt x H H') (h : N x) : Fr N H H' := fun c o n hc => b c o (fun e => n (e ▸ h)) hc
theorem RowAt.keep {N : Addr → Prop} {H H' : Hp} {v : V} {x : Tr} (h : RowAt H v x) (f : Fr N H H') (n1 : ¬ N x.p) (n2 : ¬ N x.c) (mu : ∀ b, N b → MutO (H b)) : RowAt H' v x := by
  obtain ⟨t, e, h1, h2, h3⟩ := h
  exact ⟨t, e, f _ _ (fun n => by have := mu _ n; rw [h1] at this; exact this) h1, f _ _ n1 h2, f _ _ n2 h3⟩
theorem TbAt.keep {K : PySem.W.Frag} {N : Addr → Prop} {H H' : Hp} {a L F : Addr} {ks fs : List Str} {rows : List Tr} (h : TbAt K H a L F ks fs rows) (f : Fr N H H') (no : ∀ b ∈ fpT L F rows, ¬ N b) (mu : ∀ b, N b → MutO (H b)) : TbAt K H' a L F ks fs rows := by
  obtain ⟨C, dx, t, u, vs, kvs, h1, h2, h3, h4, h5, h6, h7, h8⟩ := h
  have im : ∀ {b o}, H b = some o → ¬ MutO (some o) → ¬ N b := fun hb m n => by
    have := mu _ n
    rw [hb] at this
    exact m this
  refine ⟨C, dx, t, u, vs, kvs, h1, f _ _ (im h2 id) h2, f _ _ (im h3 id) h3, f _ _ (im h4 id) h4, f _ _ (no _ List.mem_cons_self) h5, ?_, f _ _ (no _ (List.mem_cons_of_mem _ List.mem_cons_self)) h7, h8⟩
  have go : ∀ {vs : List V} {rs : List Tr}, All2 (RowAt H) vs rs → (∀ x ∈ rs, ¬ N x.p ∧ ¬ N x.c) → All2 (RowAt H') vs rs := fun h => by
    induction h with
    | nil => intro _; exact .nil
    | cons a b ih => intro n; exact .cons (a.keep f (n _ List.mem_cons_self).1 (n _ List.mem_cons_self).2 mu) (ih fun x hx => n x (List.mem_cons_of_mem _ hx))
  refine go h6 fun x hx => ?_
  have m1 : x.p ∈ fpT L F rows := List.mem_cons_of_mem _ (List.mem_cons_of_mem _ (List.mem_flatMap.mpr ⟨x, hx, List.mem_cons_self⟩))
  have m2 : x.c ∈ fpT L F rows := List.mem_cons_of_mem _ (List.mem_cons_of_mem _ (List.mem_flatMap.mpr ⟨x, hx, List.mem_cons_of_mem _ List.mem_cons_self⟩))
  exact ⟨no _ m1, no _ m2⟩
theorem TbAt.same {K : PySem.W.Frag} {H H' : Hp} {a L F : Addr} {ks fs : List Str} {rows : List Tr} (h : TbAt K H a L F ks fs rows) (s : Same H H') : TbAt K H' a L F ks fs rows := h.keep (N := fun _ => False) (Fr.same s) (fun _ _ n => n) (fun _ n => n.elim)
/-! ### rows in order -/
def ordK (ks : List Str) (l : Kvs) : Kvs := ks.filterMap fun k => (valV l (kS k)).map fun v => (kS k, v)
theorem val_ord {k : Str} {l : Kvs} : ∀ {ks : List Str}, ks.Nodup → valV (ordK ks l) (kS k) = if k ∈ ks then valV l (kS k) else none
  | [], _ => rfl
  | z :: zs, nd => by
    obtain ⟨n1, n2⟩ := List.nodup_cons.mp nd
    have ih := val_ord (k := k) (l := l) n2
    unfold ordK at ih ⊢
    rw [List.filterMap_cons]
    cases e : valV l (kS z) with
    | none =>
      show valV (List.filterMap _ zs) (kS k) = _
      rw [ih]
      by_cases c : k = z
      · subst c
        rw [if_neg n1, if_pos List.mem_cons_self, e]
      · by_cases m : k ∈ zs
        · rw [if_pos m, if_pos (List.mem_cons_of_mem _ m)]
        · rw [if_neg m, if_neg (fun h => (List.mem_cons.mp h).elim c m)]
    | some v =>
      show valV ((kS z, v) :: List.filterMap _ zs) (kS k) = _
      by_cases c : k = z
      · subst c
        rw [valV_pos rfl, if_pos List.mem_cons_self, e]
      · rw [valV_neg (fun h : kS z = kS k => c (kS_inj h).symm), ih]
        by_cases m : k ∈ zs
        · rw [if_pos m, if_pos (List.mem_cons_of_mem _ m)]
        · rw [if_neg m, if_neg (fun h => (List.mem_cons.mp h).elim c m)]
theorem ord_len {ks : List Str} {l : Kvs} : (ordK ks l).length ≤ ks.length := List.length_filterMap_le _ _
theorem ord_snoc {zs : List Str} {z : Str} {l : Kvs} : ordK (zs ++ [z]) l = match valV l (kS z) with | some v => ordK zs l ++ [(kS z, v)] | none => ordK zs l := by
  unfold ordK
  rw [List.filterMap_append, List.filterMap_cons]
  cases valV l (kS z) with
  | none => exact List.append_nil _
  | some v => rfl
theorem ord_put {zs : List Str} {z : Str} {l : Kvs} {v : V} (nd : (zs ++ [z]).Nodup) (e : valV l (kS z) = some v) : putK (ordK zs l) (kS z) v = ordK (zs ++ [z]) l := by
  obtain ⟨n1, _, n3⟩ := List.nodup_append.mp nd
  rw [ord_snoc, e, putK_new]
  rw [val_ord n1, if_neg (fun h => n3 z h z List.mem_cons_self rfl)]
theorem ord_ints {ks : List Str} {l : Kvs} (h : Ints l) : Ints (ordK ks l) := fun q hq => by
  unfold ordK at hq
  obtain ⟨k, _, e⟩ := List.mem_filterMap.mp hq
  obtain ⟨v, ev, rfl⟩ := Option.map_eq_some_iff.mp e
  unfold valV at ev
  obtain ⟨w, ew, rfl⟩ := Option.map_eq_some_iff.mp ev
  obtain ⟨i, hi⟩ := h w (List.mem_of_find?_eq_some ew)
  exact ⟨i, hi⟩
theorem fm_congr {α β : Type} {f g : α → Option β} : ∀ {l : List α}, (∀ x ∈ l, f x = g x) → l.filterMap f = l.filterMap g
  | [], _ => rfl
  | x :: l, h => by
    rw [List.filterMap_cons, List.filterMap_cons, h x List.mem_cons_self, fm_congr fun y hy => h y (List.mem_cons_of_mem _ hy)]
theorem ord_keys {ks : List Str} {l : Kvs} : ∃ zs : List Str, (ordK ks l).map Prod.fst = zs.map kS ∧ zs.Sublist ks ∧ ∀ z ∈ ks, (valV l (kS z)).isSome = true → z ∈ zs := by
  refine ⟨ks.filter fun k => (valV l (kS k)).isSome, ?_, List.filter_sublist, fun z hz h => List.mem_filter.mpr ⟨hz, h⟩⟩
  unfold ordK
  induction ks with
  | nil => rfl
  | cons k r ih =>
    rw [List.filterMap_cons, List.filter_cons]
    cases e : valV l (kS k) with
    | none => simpa using ih
    | some v => simpa using ih
theorem ord_all {fs : List Str} {l : Kvs} (h : ∀ z ∈ fs, (valV l (kS z)).isSome = true) : (ordK fs l).map Prod.fst = fs.map kS := by
  unfold ordK
  induction fs with
  | nil => rfl
  | cons k r ih =>
    rw [List.filterMap_cons]
    obtain ⟨v, e⟩ := Option.isSome_iff_exists.mp (h k List.mem_cons_self)
    rw [e]
    show kS k :: List.map Prod.fst _ = kS k :: _
    rw [ih fun z hz => h z (List.mem_cons_of_mem _ hz)]
theorem ord_self : ∀ {ks zs : List Str} {l : Kvs}, zs.Sublist ks → ks.Nodup → l.map Prod.fst = zs.map kS → ordK ks l = l
  | _, _, l, .slnil, _, h => by
    cases l with
    | nil => rfl
    | cons _ _ => cases h
  | _, zs, l, .cons (l₂ := ks) k s, nd, h => by
    obtain ⟨n1, n2⟩ := List.nodup_cons.mp nd
    have e : valV l (kS k) = none := by
      cases e : valV l (kS k) with
      | none => rfl
      | some v =>
        have := valV_in e
        rw [show l.map (fun x => x.1) = zs.map kS from h] at this
        obtain ⟨y, hy, ey⟩ := List.mem_map.mp this
        exact absurd (s.subset (kS_inj ey ▸ hy)) n1
    have ih := ord_self s n2 h
    unfold ordK at ih ⊢
    rw [List.filterMap_cons, e]
    exact ih
  | _, _, l, .cons₂ (l₁ := zs) (l₂ := ks) k s, nd, h => by
    obtain ⟨n1, n2⟩ := List.nodup_cons.mp nd
    cases l with
    | nil => cases h
    | cons q r =>
      rw [List.map_cons, List.map_cons, List.cons.injEq] at h
      obtain ⟨h1, h2⟩ := h
      have ih := ord_self s n2 h2
      unfold ordK at ih ⊢
      rw [List.filterMap_cons, valV_pos h1]
      show (kS k, q.2) :: List.filterMap _ ks = q :: r
      rw [← h1]
      have e : List.filterMap (fun k => (valV (q :: r) (kS k)).map fun v => (kS k, v)) ks = List.filterMap (fun k => (valV r (kS k)).map fun v => (kS k, v)) ks := fm_congr fun z hz => by
        rw [valV_neg (fun e : q.1 = kS z => n1 (kS_inj (h1.symm.trans e) ▸ hz))]
      rw [e, ih]
theorem put_keys {l : Kvs} {k : Key} {v : V} (h : (valV l k).isSome = true) : (putK l k v).map Prod.fst = l.map Prod.fst := by
  unfold putK
  rw [valV_any, if_pos h, List.map_map]
  refine List.map_congr_left fun q _ => ?_
  show (if q.1 = k then (q.1, v) else q).1 = q.1
  split <;> rfl
theorem put_ints {l : Kvs} {k : Key} {i : Int} (h : Ints l) : Ints (putK l k (.int i)) := fun q hq => by
  unfold putK at hq
  split at hq
  · obtain ⟨y, hy, rfl⟩ := List.mem_map.mp hq
    split
    · exact ⟨i, rfl⟩
    · exact h y hy
  · rcases List.mem_append.mp hq with h1 | h1
    · exact h q h1
    · rw [List.mem_singleton.mp h1]; exact ⟨i, rfl⟩
theorem val_mem {l : Kvs} {k : Key} {v : V} (h : valV l k = some v) : (k, v) ∈ l := by
  unfold valV at h
  obtain ⟨⟨w1, w2⟩, ew, rfl⟩ := Option.map_eq_some_iff.mp h
  have e : decide (w1 = k) = true := List.find?_some (p := fun kv : Key × V => decide (kv.1 = k)) ew
  have e := of_decide_eq_true e
  subst e
  exact List.mem_of_find?_eq_some ew
theorem mem_val {l : Kvs} {k : Key} {v : V} (nd : (l.map Prod.fst).Nodup) (h : (k, v) ∈ l) : valV l k = some v := by
  induction l with
  | nil => cases h
  | cons q r ih =>
    rw [List.map_cons] at nd
    obtain ⟨n1, n2⟩ := List.nodup_cons.mp nd
    rcases List.mem_cons.mp h with e | h
    · subst e; exact valV_pos rfl
    · rw [valV_neg (fun e => n1 (e ▸ List.mem_map.mpr ⟨_, h, rfl⟩))]
      exact ih n2 h
end
section
variable {P : Program} {w : World} {K : PySem.W.Frag} {mg : Str → Option Value} {base : Heap}
variable {a_BadRow a_ElseputError a_NoRow a_Table a_Taken a_UnknownField a_UnknownKey a_UnknownName : Addr}
def LT (H : Hp) (l : Addr) (zs : List Str) : Prop := H l = some (.lst (zs.map V.str)) ∨ H l = some (.tup (zs.map V.str))
theorem LT.same {H H' : Hp} {l : Addr} {zs : List Str} (h : LT H l zs) (s : Same H H') : LT H' l zs := h.imp (s _ _) (s _ _)
def sp_Table___init__ (K : PySem.W.Frag) : Sp := fun vs H Q _ => ∃ (x l m C dx : Addr) (ks fs : List Str), vs = [.ref x, .ref l, .ref m] ∧ PySem.W.nsIn K mainGlobals "Table" = some (some (.ref C)) ∧ H x = some (.ins C dx []) ∧ LT H l ks ∧ LT H m fs ∧ ∀ (H' : Hp) (L F : Addr), Bt x H H' → H L = none → H F = none → L ≠ F → TbAt K H' x L F ks fs [] → Q .non H'
theorem len_Table___init__ {vs : List V} {H : Hp} {Q : VK} {E : XK} (h : sp_Table___init__ K vs H Q E) : vs.length = 3 := by
  obtain ⟨_, _, _, _, _, _, _, rfl, _⟩ := h
  rfl
theorem ok_Table___init__ {f : Addr} {fd : FuncData} (F : Fun K "__init__" "Table.__init__" s_Table___init__ f fd) (T : Gs K mg a_BadRow a_ElseputError a_NoRow a_Table a_Taken a_UnknownField a_UnknownKey a_UnknownName) : FnOk P w K mg base CX0 1 f fd ["self", "key_names", "field_names"] (sp_Table___init__ K) := by
  refine F.ok sc_Table___init__ (fun vs H Q E h => len_Table___init__ h) (fun cdv A outer s H vs Q E hr h => ?_)
  obtain ⟨x, l, m, C, dx, ks, fs, rfl, hC, hx, hl, hm, q⟩ := h
  cases hC.symm.trans T.n_Table
  refine ⟨_, (pss_cons (ps_fld (v_ 0) (pe_callTy (tupleK K) (by rfl) T.z_tuple (by decide +kernel) (pa_cons (v_ 1) pa_nil)) (by rfl)) (pss_cons (ps_fld (v_ 0) (pe_callTy (tupleK K) (by rfl) T.z_tuple (by decide +kernel) (pa_cons (v_ 2) pa_nil)) (by rfl)) (pss_cons (ps_fld (v_ 0) (pe_lst pa_nil) (by rfl)) (pss_one (ps_fld (v_ 0) pe_dnewT (by rfl)))))), ?_⟩
  rcases hl with hl | hl
  · refine ⟨l, _, rfl, .inl ⟨SqL.of hl, fun t nt => ?_⟩⟩
    have st := same_new (o := .tup (ks.map V.str)) nt
    have ht := upd_same (H := H) (a := t) (o := .tup (ks.map V.str))
    have hxa := st _ _ hx
    have hma := hm.same st
    have ba : Bt x H _ := Bt.same st
    generalize upd H t (.tup (ks.map V.str)) = Ha at st ht hxa hma ba ⊢
    refine ⟨x, a_Table, dx, _, rfl, hxa, T.cl_Table, T.na_Table_key_names, (by show 0 < 1000; decide), ?_⟩
    have hm1 : LT (upd Ha x (.ins a_Table dx [("key_names", .ref t)])) m fs := hma.imp (fun h => by rw [upd_ne (ne_of h hxa (by intro z; cases z))]; exact h) (fun h => by rw [upd_ne (ne_of h hxa (by intro z; cases z))]; exact h)
    have b1 : Bt x H (upd Ha x (.ins a_Table dx [("key_names", .ref t)])) := ba.trans Bt.st
    have hx1 := upd_same (H := Ha) (a := x) (o := .ins a_Table dx [("key_names", .ref t)])
    have kk : ∀ {c o}, Ha c = some o → o ≠ .ins a_Table dx [] → upd Ha x (.ins a_Table dx [("key_names", .ref t)]) c = some o := fun {c o} hc ne => by
      rw [upd_ne]
      · exact hc
      · intro e
        rw [e, hxa] at hc
        exact ne (Option.some.inj hc).symm
    have ht1 := kk ht (fun z => nomatch z)
    show (fun H4 => _) (upd Ha x (.ins a_Table dx [("key_names", .ref t)]))
    generalize upd Ha x (.ins a_Table dx [("key_names", .ref t)]) = H1 at b1 hx1 ht1 hm1 ⊢
    clear kk
    rcases hm1 with hm1 | hm1
    · refine ⟨m, _, rfl, .inl ⟨SqL.of hm1, fun u nu => ?_⟩⟩
      have su := same_new (o := .tup (fs.map V.str)) nu
      have hu0 := upd_same (H := H1) (a := u) (o := .tup (fs.map V.str))
      have hx0 := su _ _ hx1
      have ht0 := su _ _ ht1
      have b0 := b1.trans (Bt.same su)
      generalize upd H1 u (.tup (fs.map V.str)) = H0 at su hu0 hx0 ht0 b0 ⊢
      refine ⟨x, a_Table, dx, _, rfl, hx0, T.cl_Table, T.na_Table_field_names, (by show 1 < 1000; decide), ?_⟩
      have b2 : Bt x H (upd H0 x (.ins a_Table dx [("key_names", .ref t), ("field_names", .ref u)])) := b0.trans Bt.st
      have hx2 := upd_same (H := H0) (a := x) (o := .ins a_Table dx [("key_names", .ref t), ("field_names", .ref u)])
      have kk : ∀ {c o}, H0 c = some o → o ≠ .ins a_Table dx [("key_names", .ref t)] → upd H0 x (.ins a_Table dx [("key_names", .ref t), ("field_names", .ref u)]) c = some o := fun {c o} hc ne => by
        rw [upd_ne]
        · exact hc
        · intro e
          rw [e, hx0] at hc
          exact ne (Option.some.inj hc).symm
      have ht2 := kk ht0 (fun z => nomatch z)
      have hu2 := kk hu0 (fun z => nomatch z)
      show (fun H4 => _) (upd H0 x (.ins a_Table dx [("key_names", .ref t), ("field_names", .ref u)]))
      generalize upd H0 x (.ins a_Table dx [("key_names", .ref t), ("field_names", .ref u)]) = H2 at b2 hx2 ht2 hu2  ⊢
      clear kk
      refine ⟨(by show 0 ≤ sizeLine; decide), fun L nL => ?_⟩
      have s3 := same_new (o := .lst []) nL
      have hL3 := upd_same (H := H2) (a := L) (o := .lst [])
      have b3 := b2.trans (Bt.same s3)
      have Lx : L ≠ x := (ne_of_none hx2 nL).symm
      have L0 : H L = none := Bt.free b2 Lx nL
      have hx3 := s3 _ _ hx2
      have ht3 := s3 _ _ ht2
      have hu3 := s3 _ _ hu2
      generalize upd H2 L (.lst []) = H3 at s3 hL3 b3 hx3 ht3 hu3 ⊢
      refine ⟨x, a_Table, dx, _, rfl, hx3, T.cl_Table, T.na_Table__rows, (by show 2 < 1000; decide), ?_⟩
      have b4 : Bt x H (upd H3 x (.ins a_Table dx [("key_names", .ref t), ("field_names", .ref u), ("_rows", .ref L)])) := b3.trans Bt.st
      have hx4 := upd_same (H := H3) (a := x) (o := .ins a_Table dx [("key_names", .ref t), ("field_names", .ref u), ("_rows", .ref L)])
      have k4 : ∀ {c o}, H3 c = some o → o ≠ .ins a_Table dx [("key_names", .ref t), ("field_names", .ref u)] → upd H3 x (.ins a_Table dx [("key_names", .ref t), ("field_names", .ref u), ("_rows", .ref L)]) c = some o := fun {c o} hc ne => by
        rw [upd_ne]
        · exact hc
        · intro e
          rw [e, hx3] at hc
          exact ne (Option.some.inj hc).symm
      have ht4 := k4 ht3 (fun z => nomatch z)
      have hu4 := k4 hu3 (fun z => nomatch z)
      have hL4 := k4 hL3 (fun z => nomatch z)
      show (fun H4 => _) (upd H3 x (.ins a_Table dx [("key_names", .ref t), ("field_names", .ref u), ("_rows", .ref L)]))
      generalize upd H3 x (.ins a_Table dx [("key_names", .ref t), ("field_names", .ref u), ("_rows", .ref L)]) = H4 at b4 hx4 ht4 hu4 hL4 ⊢
      clear k4
      intro F nF
      have s5 := same_new (o := .dT []) nF
      have hF5 := upd_same (H := H4) (a := F) (o := .dT [])
      have b5 := b4.trans (Bt.same s5)
      have Fx : F ≠ x := (ne_of_none hx4 nF).symm
      have F0 : H F = none := Bt.free b4 Fx nF
      have LF : L ≠ F := ne_of_none hL4 nF
      have hx5 := s5 _ _ hx4
      have ht5 := s5 _ _ ht4
      have hu5 := s5 _ _ hu4
      have hL5 := s5 _ _ hL4
      generalize upd H4 F (.dT []) = H5 at b5 hx5 ht5 hu5 hL5 hF5 ⊢
      refine ⟨x, a_Table, dx, _, rfl, hx5, T.cl_Table, T.na_Table__first_rows, (by show 3 < 1000; decide), ?_⟩
      have k6 : ∀ {c o}, H5 c = some o → o ≠ .ins a_Table dx [("key_names", .ref t), ("field_names", .ref u), ("_rows", .ref L)] → upd H5 x (.ins a_Table dx [("key_names", .ref t), ("field_names", .ref u), ("_rows", .ref L), ("_first_rows", .ref F)]) c = some o := fun {c o} hc ne => by
        rw [upd_ne]
        · exact hc
        · intro e
          rw [e, hx5] at hc
          exact ne (Option.some.inj hc).symm
      exact q _ L F (b5.trans Bt.st) L0 F0 LF ⟨a_Table, dx, t, u, [], [], T.n_Table, upd_same, k6 ht5 (fun z => nomatch z), k6 hu5 (fun z => nomatch z), k6 hL5 (fun z => nomatch z), .nil, k6 hF5 (fun z => nomatch z), ⟨fun _ _ => rfl, Nat.zero_le _⟩⟩
    · refine ⟨m, _, rfl, .inr ⟨SqT.of hm1, x, a_Table, dx, _, rfl, hx1, T.cl_Table, T.na_Table_field_names, (by show 1 < 1000; decide), ?_⟩⟩
      have b2 : Bt x H (upd H1 x (.ins a_Table dx [("key_names", .ref t), ("field_names", .ref m)])) := b1.trans Bt.st
      have hx2 := upd_same (H := H1) (a := x) (o := .ins a_Table dx [("key_names", .ref t), ("field_names", .ref m)])
      have kk : ∀ {c o}, H1 c = some o → o ≠ .ins a_Table dx [("key_names", .ref t)] → upd H1 x (.ins a_Table dx [("key_names", .ref t), ("field_names", .ref m)]) c = some o := fun {c o} hc ne => by
        rw [upd_ne]
        · exact hc
        · intro e
          rw [e, hx1] at hc
          exact ne (Option.some.inj hc).symm
      have ht2 := kk ht1 (fun z => nomatch z)
      have hu2 := kk hm1 (fun z => nomatch z)
      show (fun H4 => _) (upd H1 x (.ins a_Table dx [("key_names", .ref t), ("field_names", .ref m)]))
      generalize upd H1 x (.ins a_Table dx [("key_names", .ref t), ("field_names", .ref m)]) = H2 at b2 hx2 ht2 hu2  ⊢
      clear kk
      refine ⟨(by show 0 ≤ sizeLine; decide), fun L nL => ?_⟩
      have s3 := same_new (o := .lst []) nL
      have hL3 := upd_same (H := H2) (a := L) (o := .lst [])
      have b3 := b2.trans (Bt.same s3)
      have Lx : L ≠ x := (ne_of_none hx2 nL).symm
      have L0 : H L = none := Bt.free b2 Lx nL
      have hx3 := s3 _ _ hx2
      have ht3 := s3 _ _ ht2
      have hu3 := s3 _ _ hu2
      generalize upd H2 L (.lst []) = H3 at s3 hL3 b3 hx3 ht3 hu3 ⊢
      refine ⟨x, a_Table, dx, _, rfl, hx3, T.cl_Table, T.na_Table__rows, (by show 2 < 1000; decide), ?_⟩
      have b4 : Bt x H (upd H3 x (.ins a_Table dx [("key_names", .ref t), ("field_names", .ref m), ("_rows", .ref L)])) := b3.trans Bt.st
      have hx4 := upd_same (H := H3) (a := x) (o := .ins a_Table dx [("key_names", .ref t), ("field_names", .ref m), ("_rows", .ref L)])
      have k4 : ∀ {c o}, H3 c = some o → o ≠ .ins a_Table dx [("key_names", .ref t), ("field_names", .ref m)] → upd H3 x (.ins a_Table dx [("key_names", .ref t), ("field_names", .ref m), ("_rows", .ref L)]) c = some o := fun {c o} hc ne => by
        rw [upd_ne]
        · exact hc
        · intro e
          rw [e, hx3] at hc
          exact ne (Option.some.inj hc).symm
      have ht4 := k4 ht3 (fun z => nomatch z)
      have hu4 := k4 hu3 (fun z => nomatch z)
      have hL4 := k4 hL3 (fun z => nomatch z)
      show (fun H4 => _) (upd H3 x (.ins a_Table dx [("key_names", .ref t), ("field_names", .ref m), ("_rows", .ref L)]))
      generalize upd H3 x (.ins a_Table dx [("key_names", .ref t), ("field_names", .ref m), ("_rows", .ref L)]) = H4 at b4 hx4 ht4 hu4 hL4 ⊢
      clear k4
      intro F nF
      have s5 := same_new (o := .dT []) nF
      have hF5 := upd_same (H := H4) (a := F) (o := .dT [])
      have b5 := b4.trans (Bt.same s5)
      have Fx : F ≠ x := (ne_of_none hx4 nF).symm
      have F0 : H F = none := Bt.free b4 Fx nF
      have LF : L ≠ F := ne_of_none hL4 nF
      have hx5 := s5 _ _ hx4
      have ht5 := s5 _ _ ht4
      have hu5 := s5 _ _ hu4
      have hL5 := s5 _ _ hL4
      generalize upd H4 F (.dT []) = H5 at b5 hx5 ht5 hu5 hL5 hF5 ⊢
      refine ⟨x, a_Table, dx, _, rfl, hx5, T.cl_Table, T.na_Table__first_rows, (by show 3 < 1000; decide), ?_⟩
      have k6 : ∀ {c o}, H5 c = some o → o ≠ .ins a_Table dx [("key_names", .ref t), ("field_names", .ref m), ("_rows", .ref L)] → upd H5 x (.ins a_Table dx [("key_names", .ref t), ("field_names", .ref m), ("_rows", .ref L), ("_first_rows", .ref F)]) c = some o := fun {c o} hc ne => by
        rw [upd_ne]
        · exact hc
        · intro e
          rw [e, hx5] at hc
          exact ne (Option.some.inj hc).symm
      exact q _ L F (b5.trans Bt.st) L0 F0 LF ⟨a_Table, dx, t, m, [], [], T.n_Table, upd_same, k6 ht5 (fun z => nomatch z), k6 hu5 (fun z => nomatch z), k6 hL5 (fun z => nomatch z), .nil, k6 hF5 (fun z => nomatch z), ⟨fun _ _ => rfl, Nat.zero_le _⟩⟩
  · refine ⟨l, _, rfl, .inr ⟨SqT.of hl, x, a_Table, dx, _, rfl, hx, T.cl_Table, T.na_Table_key_names, (by show 0 < 1000; decide), ?_⟩⟩
    have hm1 : LT (upd H x (.ins a_Table dx [("key_names", .ref l)])) m fs := hm.imp (fun h => by rw [upd_ne (ne_of h hx (by intro z; cases z))]; exact h) (fun h => by rw [upd_ne (ne_of h hx (by intro z; cases z))]; exact h)
    have ba : Bt x H H := fun _ _ _ h => h
    have b1 : Bt x H (upd H x (.ins a_Table dx [("key_names", .ref l)])) := ba.trans Bt.st
    have hx1 := upd_same (H := H) (a := x) (o := .ins a_Table dx [("key_names", .ref l)])
    have kk : ∀ {c o}, H c = some o → o ≠ .ins a_Table dx [] → upd H x (.ins a_Table dx [("key_names", .ref l)]) c = some o := fun {c o} hc ne => by
      rw [upd_ne]
      · exact hc
      · intro e
        rw [e, hx] at hc
        exact ne (Option.some.inj hc).symm
    have ht1 := kk hl (fun z => nomatch z)
    show (fun H4 => _) (upd H x (.ins a_Table dx [("key_names", .ref l)]))
    generalize upd H x (.ins a_Table dx [("key_names", .ref l)]) = H1 at b1 hx1 ht1 hm1 ⊢
    clear kk
    rcases hm1 with hm1 | hm1
    · refine ⟨m, _, rfl, .inl ⟨SqL.of hm1, fun u nu => ?_⟩⟩
      have su := same_new (o := .tup (fs.map V.str)) nu
      have hu0 := upd_same (H := H1) (a := u) (o := .tup (fs.map V.str))
      have hx0 := su _ _ hx1
      have ht0 := su _ _ ht1
      have b0 := b1.trans (Bt.same su)
      generalize upd H1 u (.tup (fs.map V.str)) = H0 at su hu0 hx0 ht0 b0 ⊢
      refine ⟨x, a_Table, dx, _, rfl, hx0, T.cl_Table, T.na_Table_field_names, (by show 1 < 1000; decide), ?_⟩
      have b2 : Bt x H (upd H0 x (.ins a_Table dx [("key_names", .ref l), ("field_names", .ref u)])) := b0.trans Bt.st
      have hx2 := upd_same (H := H0) (a := x) (o := .ins a_Table dx [("key_names", .ref l), ("field_names", .ref u)])
      have kk : ∀ {c o}, H0 c = some o → o ≠ .ins a_Table dx [("key_names", .ref l)] → upd H0 x (.ins a_Table dx [("key_names", .ref l), ("field_names", .ref u)]) c = some o := fun {c o} hc ne => by
        rw [upd_ne]
        · exact hc
        · intro e
          rw [e, hx0] at hc
          exact ne (Option.some.inj hc).symm
      have ht2 := kk ht0 (fun z => nomatch z)
      have hu2 := kk hu0 (fun z => nomatch z)
      show (fun H4 => _) (upd H0 x (.ins a_Table dx [("key_names", .ref l), ("field_names", .ref u)]))
      generalize upd H0 x (.ins a_Table dx [("key_names", .ref l), ("field_names", .ref u)]) = H2 at b2 hx2 ht2 hu2  ⊢
      clear kk
      refine ⟨(by show 0 ≤ sizeLine; decide), fun L nL => ?_⟩
      have s3 := same_new (o := .lst []) nL
      have hL3 := upd_same (H := H2) (a := L) (o := .lst [])
      have b3 := b2.trans (Bt.same s3)
      have Lx : L ≠ x := (ne_of_none hx2 nL).symm
      have L0 : H L = none := Bt.free b2 Lx nL
      have hx3 := s3 _ _ hx2
      have ht3 := s3 _ _ ht2
      have hu3 := s3 _ _ hu2
      generalize upd H2 L (.lst []) = H3 at s3 hL3 b3 hx3 ht3 hu3 ⊢
      refine ⟨x, a_Table, dx, _, rfl, hx3, T.cl_Table, T.na_Table__rows, (by show 2 < 1000; decide), ?_⟩
      have b4 : Bt x H (upd H3 x (.ins a_Table dx [("key_names", .ref l), ("field_names", .ref u), ("_rows", .ref L)])) := b3.trans Bt.st
      have hx4 := upd_same (H := H3) (a := x) (o := .ins a_Table dx [("key_names", .ref l), ("field_names", .ref u), ("_rows", .ref L)])
      have k4 : ∀ {c o}, H3 c = some o → o ≠ .ins a_Table dx [("key_names", .ref l), ("field_names", .ref u)] → upd H3 x (.ins a_Table dx [("key_names", .ref l), ("field_names", .ref u), ("_rows", .ref L)]) c = some o := fun {c o} hc ne => by
        rw [upd_ne]
        · exact hc
        · intro e
          rw [e, hx3] at hc
          exact ne (Option.some.inj hc).symm
      have ht4 := k4 ht3 (fun z => nomatch z)
      have hu4 := k4 hu3 (fun z => nomatch z)
      have hL4 := k4 hL3 (fun z => nomatch z)
      show (fun H4 => _) (upd H3 x (.ins a_Table dx [("key_names", .ref l), ("field_names", .ref u), ("_rows", .ref L)]))
      generalize upd H3 x (.ins a_Table dx [("key_names", .ref l), ("field_names", .ref u), ("_rows", .ref L)]) = H4 at b4 hx4 ht4 hu4 hL4 ⊢
      clear k4
      intro F nF
      have s5 := same_new (o := .dT []) nF
      have hF5 := upd_same (H := H4) (a := F) (o := .dT [])
      have b5 := b4.trans (Bt.same s5)
      have Fx : F ≠ x := (ne_of_none hx4 nF).symm
      have F0 : H F = none := Bt.free b4 Fx nF
      have LF : L ≠ F := ne_of_none hL4 nF
      have hx5 := s5 _ _ hx4
      have ht5 := s5 _ _ ht4
      have hu5 := s5 _ _ hu4
      have hL5 := s5 _ _ hL4
      generalize upd H4 F (.dT []) = H5 at b5 hx5 ht5 hu5 hL5 hF5 ⊢
      refine ⟨x, a_Table, dx, _, rfl, hx5, T.cl_Table, T.na_Table__first_rows, (by show 3 < 1000; decide), ?_⟩
      have k6 : ∀ {c o}, H5 c = some o → o ≠ .ins a_Table dx [("key_names", .ref l), ("field_names", .ref u), ("_rows", .ref L)] → upd H5 x (.ins a_Table dx [("key_names", .ref l), ("field_names", .ref u), ("_rows", .ref L), ("_first_rows", .ref F)]) c = some o := fun {c o} hc ne => by
        rw [upd_ne]
        · exact hc
        · intro e
          rw [e, hx5] at hc
          exact ne (Option.some.inj hc).symm
      exact q _ L F (b5.trans Bt.st) L0 F0 LF ⟨a_Table, dx, l, u, [], [], T.n_Table, upd_same, k6 ht5 (fun z => nomatch z), k6 hu5 (fun z => nomatch z), k6 hL5 (fun z => nomatch z), .nil, k6 hF5 (fun z => nomatch z), ⟨fun _ _ => rfl, Nat.zero_le _⟩⟩
    · refine ⟨m, _, rfl, .inr ⟨SqT.of hm1, x, a_Table, dx, _, rfl, hx1, T.cl_Table, T.na_Table_field_names, (by show 1 < 1000; decide), ?_⟩⟩
      have b2 : Bt x H (upd H1 x (.ins a_Table dx [("key_names", .ref l), ("field_names", .ref m)])) := b1.trans Bt.st
      have hx2 := upd_same (H := H1) (a := x) (o := .ins a_Table dx [("key_names", .ref l), ("field_names", .ref m)])
      have kk : ∀ {c o}, H1 c = some o → o ≠ .ins a_Table dx [("key_names", .ref l)] → upd H1 x (.ins a_Table dx [("key_names", .ref l), ("field_names", .ref m)]) c = some o := fun {c o} hc ne => by
        rw [upd_ne]
        · exact hc
        · intro e
          rw [e, hx1] at hc
          exact ne (Option.some.inj hc).symm
      have ht2 := kk ht1 (fun z => nomatch z)
      have hu2 := kk hm1 (fun z => nomatch z)
      show (fun H4 => _) (upd H1 x (.ins a_Table dx [("key_names", .ref l), ("field_names", .ref m)]))
      generalize upd H1 x (.ins a_Table dx [("key_names", .ref l), ("field_names", .ref m)]) = H2 at b2 hx2 ht2 hu2  ⊢
      clear kk
      refine ⟨(by show 0 ≤ sizeLine; decide), fun L nL => ?_⟩
      have s3 := same_new (o := .lst []) nL
      have hL3 := upd_same (H := H2) (a := L) (o := .lst [])
      have b3 := b2.trans (Bt.same s3)
      have Lx : L ≠ x := (ne_of_none hx2 nL).symm
      have L0 : H L = none := Bt.free b2 Lx nL
      have hx3 := s3 _ _ hx2
      have ht3 := s3 _ _ ht2
      have hu3 := s3 _ _ hu2
      generalize upd H2 L (.lst []) = H3 at s3 hL3 b3 hx3 ht3 hu3 ⊢
      refine ⟨x, a_Table, dx, _, rfl, hx3, T.cl_Table, T.na_Table__rows, (by show 2 < 1000; decide), ?_⟩
      have b4 : Bt x H (upd H3 x (.ins a_Table dx [("key_names", .ref l), ("field_names", .ref m), ("_rows", .ref L)])) := b3.trans Bt.st
      have hx4 := upd_same (H := H3) (a := x) (o := .ins a_Table dx [("key_names", .ref l), ("field_names", .ref m), ("_rows", .ref L)])
      have k4 : ∀ {c o}, H3 c = some o → o ≠ .ins a_Table dx [("key_names", .ref l), ("field_names", .ref m)] → upd H3 x (.ins a_Table dx [("key_names", .ref l), ("field_names", .ref m), ("_rows", .ref L)]) c = some o := fun {c o} hc ne => by
        rw [upd_ne]
        · exact hc
        · intro e
          rw [e, hx3] at hc
          exact ne (Option.some.inj hc).symm
      have ht4 := k4 ht3 (fun z => nomatch z)
      have hu4 := k4 hu3 (fun z => nomatch z)
      have hL4 := k4 hL3 (fun z => nomatch z)
      show (fun H4 => _) (upd H3 x (.ins a_Table dx [("key_names", .ref l), ("field_names", .ref m), ("_rows", .ref L)]))
      generalize upd H3 x (.ins a_Table dx [("key_names", .ref l), ("field_names", .ref m), ("_rows", .ref L)]) = H4 at b4 hx4 ht4 hu4 hL4 ⊢
      clear k4
      intro F nF
      have s5 := same_new (o := .dT []) nF
      have hF5 := upd_same (H := H4) (a := F) (o := .dT [])
      have b5 := b4.trans (Bt.same s5)
      have Fx : F ≠ x := (ne_of_none hx4 nF).symm
      have F0 : H F = none := Bt.free b4 Fx nF
      have LF : L ≠ F := ne_of_none hL4 nF
      have hx5 := s5 _ _ hx4
      have ht5 := s5 _ _ ht4
      have hu5 := s5 _ _ hu4
      have hL5 := s5 _ _ hL4
      generalize upd H4 F (.dT []) = H5 at b5 hx5 ht5 hu5 hL5 hF5 ⊢
      refine ⟨x, a_Table, dx, _, rfl, hx5, T.cl_Table, T.na_Table__first_rows, (by show 3 < 1000; decide), ?_⟩
      have k6 : ∀ {c o}, H5 c = some o → o ≠ .ins a_Table dx [("key_names", .ref l), ("field_names", .ref m), ("_rows", .ref L)] → upd H5 x (.ins a_Table dx [("key_names", .ref l), ("field_names", .ref m), ("_rows", .ref L), ("_first_rows", .ref F)]) c = some o := fun {c o} hc ne => by
        rw [upd_ne]
        · exact hc
        · intro e
          rw [e, hx5] at hc
          exact ne (Option.some.inj hc).symm
      exact q _ L F (b5.trans Bt.st) L0 F0 LF ⟨a_Table, dx, l, m, [], [], T.n_Table, upd_same, k6 ht5 (fun z => nomatch z), k6 hu5 (fun z => nomatch z), k6 hL5 (fun z => nomatch z), .nil, k6 hF5 (fun z => nomatch z), ⟨fun _ _ => rfl, Nat.zero_le _⟩⟩
end
section
variable {P : Program} {w : World} {K : PySem.W.Frag} {mg : Str → Option Value} {base : Heap}
variable {a_BadRow a_ElseputError a_NoRow a_Table a_Taken a_UnknownField a_UnknownKey a_UnknownName : Addr}
def NoRowX (K : PySem.W.Frag) (H : Hp) (i : Int) (E : XK) : Prop := ∀ (C d : Addr) (H' : Hp), PySem.W.nsIn K mainGlobals "NoRow" = some (some (.ref C)) → Same H H' → H d = none → H' d = some (.xd [("row", .int i)]) → E (.ref C) (some d) H'
def UnkX (K : PySem.W.Frag) (H : Hp) (z : Str) (E : XK) : Prop := ∀ (C d : Addr) (H' : Hp), PySem.W.nsIn K mainGlobals "UnknownKey" = some (some (.ref C)) → Same H H' → H d = none → H' d = some (.xd [("name", .str z)]) → E (.ref C) (some d) H'
def UnfX (K : PySem.W.Frag) (H : Hp) (z : Str) (E : XK) : Prop := ∀ (C d : Addr) (H' : Hp), PySem.W.nsIn K mainGlobals "UnknownField" = some (some (.ref C)) → Same H H' → H d = none → H' d = some (.xd [("name", .str z)]) → E (.ref C) (some d) H'
theorem UnkX.same {K : PySem.W.Frag} {H H1 : Hp} {z : Str} {E : XK} (h : UnkX K H z E) (s : Same H H1) : UnkX K H1 z E := fun C d H' hC s2 nd hd => h C d H' hC (s.trans s2) (Same.free s nd) hd
def sp_Table__check_row (K : PySem.W.Frag) : Sp := fun vs H Q E => ∃ (a L F : Addr) (ks fs : List Str) (rows : List Tr) (i : Int), vs = [.ref a, .int i] ∧ TbAt K H a L F ks fs rows ∧ i.natAbs < 2 ^ 200 ∧ if 0 ≤ i ∧ i < (rows.length : Int) then Q .non H else NoRowX K H i E
theorem len_Table__check_row {vs : List V} {H : Hp} {Q : VK} {E : XK} (h : sp_Table__check_row K vs H Q E) : vs.length = 2 := by
  obtain ⟨_, _, _, _, _, _, _, rfl, _⟩ := h
  rfl
theorem ok_Table__check_row {f : Addr} {fd : FuncData} {f_NoRow : Addr} {fd_NoRow : FuncData} (F : Fun K "_check_row" "Table._check_row" s_Table__check_row f fd) (T : Gs K mg a_BadRow a_ElseputError a_NoRow a_Table a_Taken a_UnknownField a_UnknownKey a_UnknownName) (c_NoRow : CalE P w K mg base 1 "NoRow" a_NoRow f_NoRow fd_NoRow ["self", "row"] okx_NoRow fs_NoRow ["row"]) : FnOk P w K mg base (L2.CX P w) 3 f fd ["self", "row"] (sp_Table__check_row K) := by
  refine F.okX sc_Table__check_row (fun vs H Q E h => len_Table__check_row h) (fun cdv A outer s H vs Q E hr h => ?_)
  obtain ⟨a, L, F, ks, fs, rows, i, rfl, ⟨C, dx, t, u, vs, kvs, hC, ha, ht, hu, hL, hr', hF, hk⟩, hi, q⟩ := h
  cases hC.symm.trans T.n_Table
  have rl := hr'.len
  refine ⟨_, (pss_one (ps_if (PW.pt (pw_or (pt_c op_ltM (v_ 1) pe_int) (pw_or1 (pt_c op_geM (v_ 1) (pe_callB (lenK K) (by rfl) T.z_len PySem.boot_len (pa_cons (e_f K (v_ 0)) pa_nil)))))) (pss_one (ps_raise rfl (takes_of rfl rfl rfl rfl) (pmk_oex c_NoRow.X.oex c_NoRow.X.iC c_NoRow.X.tI c_NoRow.G (hr.mono (by first | decide | omega)) c_NoRow.b .nil pass0 rfl c_NoRow.m (pa_cons (v_ 1) pa_nil)))) pss_nil)), ?_⟩
  refine ite2 (fun c => ?_) (fun c => ?_)
  · have c : i < 0 := of_decide_eq_true c
    rw [if_neg (by omega)] at q
    refine mk_spE (by show 1 ≤ 1000; decide) ⟨i, rfl, hi⟩ (fun e ne => ?_)
    exact q a_NoRow e _ T.n_NoRow (same_new ne) ne upd_same
  have c : ¬ i < 0 := fun h => c (decide_eq_true h)
  refine ⟨a, a_Table, dx, _, _, rfl, ha, T.cl_Table, T.na_Table__rows, rfl, .inl ⟨_, .inl (SqL.of hL), ?_⟩⟩
  refine ite2 (fun c2 => ?_) (fun c2 => ?_)
  · have c2 : (vs.length : Int) ≤ i := of_decide_eq_true c2
    rw [if_neg (by omega)] at q
    refine mk_spE (by show 1 ≤ 1000; decide) ⟨i, rfl, hi⟩ (fun e ne => ?_)
    exact q a_NoRow e _ T.n_NoRow (same_new ne) ne upd_same
  have c2 : ¬ (vs.length : Int) ≤ i := fun h => c2 (decide_eq_true h)
  rw [if_pos (by omega)] at q
  exact q
def sp_Table___len__ (K : PySem.W.Frag) : Sp := fun vs H Q _ => ∃ (a L F : Addr) (ks fs : List Str) (rows : List Tr), vs = [.ref a] ∧ TbAt K H a L F ks fs rows ∧ Q (.int (rows.length : Int)) H
theorem len_Table___len__ {vs : List V} {H : Hp} {Q : VK} {E : XK} (h : sp_Table___len__ K vs H Q E) : vs.length = 1 := by
  obtain ⟨_, _, _, _, _, _, rfl, _⟩ := h
  rfl
theorem ok_Table___len__ {f : Addr} {fd : FuncData} (F : Fun K "__len__" "Table.__len__" s_Table___len__ f fd) (T : Gs K mg a_BadRow a_ElseputError a_NoRow a_Table a_Taken a_UnknownField a_UnknownKey a_UnknownName) : FnOk P w K mg base CX0 1 f fd ["self"] (sp_Table___len__ K) := by
  refine F.ok sc_Table___len__ (fun vs H Q E h => len_Table___len__ h) (fun cdv A outer s H vs Q E hr h => ?_)
  obtain ⟨a, L, F, ks, fs, rows, rfl, ⟨C, dx, t, u, vs, kvs, hC, ha, ht, hu, hL, hr', hF, hk⟩, q⟩ := h
  cases hC.symm.trans T.n_Table
  refine ⟨_, (pss_one (ps_ret (pe_callB (lenK K) (by rfl) T.z_len PySem.boot_len (pa_cons (e_f K (v_ 0)) pa_nil)))), ?_⟩
  rw [← hr'.len] at q
  exact ⟨a, a_Table, dx, _, _, rfl, ha, T.cl_Table, T.na_Table__rows, rfl, .inl ⟨_, .inl (SqL.of hL), q⟩⟩
def rowV : Option Nat → V
  | some j => .int (j : Int)
  | none => .non
def sp_Table___getitem__ (K : PySem.W.Frag) : Sp := fun vs H Q E => ∃ (a L F p : Addr) (ks fs : List Str) (rows : List Tr) (k : Str) (i : Int), vs = [.ref a, .ref p] ∧ H p = some (.tup [.str k, .int i]) ∧ TbAt K H a L F ks fs rows ∧ k.length ≤ 1000 ∧ Asc k ∧ if k ∈ ks then ∀ H', Same H H' → Q (rowV (firstAt (rows.map (·.r)) k i)) H' else UnkX K H k E
theorem len_Table___getitem__ {vs : List V} {H : Hp} {Q : VK} {E : XK} (h : sp_Table___getitem__ K vs H Q E) : vs.length = 2 := by
  obtain ⟨_, _, _, _, _, _, _, _, _, rfl, _⟩ := h
  rfl
theorem ok_Table___getitem__ {f : Addr} {fd : FuncData} {f_UnknownKey : Addr} {fd_UnknownKey : FuncData} (F : Fun K "__getitem__" "Table.__getitem__" s_Table___getitem__ f fd) (T : Gs K mg a_BadRow a_ElseputError a_NoRow a_Table a_Taken a_UnknownField a_UnknownKey a_UnknownName) (c_UnknownKey : CalEI P w K mg base 1 "UnknownKey" a_UnknownKey f_UnknownKey fd_UnknownKey ["self", "name"] okx_UnknownKey fs_UnknownKey ["name"]) : FnOk P w K mg base (L2.CX P w) 3 f fd ["self", "place"] (sp_Table___getitem__ K) := by
  refine F.okX sc_Table___getitem__ (fun vs H Q E h => len_Table___getitem__ h) (fun cdv A outer s H vs Q E hr h => ?_)
  obtain ⟨a, L, F, p, ks, fs, rows, k, i, rfl, hp, ⟨C, dx, t, u, vs, kvs, hC, ha, ht, hu, hL, hr', hF, hk⟩, kl, ka, q⟩ := h
  cases hC.symm.trans T.n_Table
  refine ⟨_, (pss_cons (ps_asg (v_ 1) (pg_tup (by rfl) (pgs_cons (pg_name (i := 2) sc_Table___getitem__.nd rfl (.inl rfl)) (pgs_cons (pg_name (i := 3) sc_Table___getitem__.nd rfl (.inl rfl)) pgs_nil)))) (pss_cons (ps_if (pt_c (notInK K) (v_ 2) (e_f K (v_ 0))) (pss_one (ps_raise rfl (takes_of rfl rfl rfl rfl) (pmk_oex c_UnknownKey.oex c_UnknownKey.iC c_UnknownKey.tI c_UnknownKey.G (hr.mono (by first | decide | omega)) c_UnknownKey.b .nil pass0 rfl c_UnknownKey.m (pa_cons (v_ 2) pa_nil)))) pss_nil) (pss_one (ps_ret (pe_dget1 (hu_of hr) (e_f K (v_ 0)) (pe_tup (pa_cons (v_ 2) (pa_cons (v_ 3) pa_nil))) ⟨rfl, rfl, rfl, rfl⟩))))), ?_⟩
  refine ⟨p, _, rfl, SqT.of hp, rfl, _, _, rfl, _, _, rfl, rfl, ?_⟩
  refine ⟨a, a_Table, dx, _, _, rfl, ha, T.cl_Table, T.na_Table_key_names, rfl, _, .inr (SqT.of ht), rfl, flat_strs, ?_⟩
  refine ite2 (fun c => ?_) (fun c => ?_)
  · have c : k ∉ ks := by
      have c : (!inV (.str k) (ks.map V.str)) = true := c
      rw [inV_str] at c
      simpa using c
    rw [if_neg c] at q
    refine mk_spE (by show 1 ≤ 1000; decide) ⟨k, rfl, kl, ka⟩ (fun e ne => ?_)
    exact q a_UnknownKey e _ T.n_UnknownKey (same_new ne) ne upd_same
  · have c : k ∈ ks := by
      have c : ¬ (!inV (.str k) (ks.map V.str)) = true := c
      rw [inV_str] at c
      simpa using c
    rw [if_pos c] at q
    refine ⟨a, a_Table, dx, _, _, rfl, ha, T.cl_Table, T.na_Table__first_rows, rfl, F, rfl, .inr ⟨_, .inl hF⟩, (by show 2 ≤ sizeLine; decide), fun b nb => ?_⟩
    have sb := same_new (o := .tup [.str k, .int i]) nb
    have hb := upd_same (H := H) (a := b) (o := .tup [.str k, .int i])
    generalize upd H b (.tup [.str k, .int i]) = H1 at sb hb ⊢
    refine ⟨_, DGet.t (k := [kS k, .inl i]) (sb _ _ hF) hb, ?_⟩
    have y := q H1 sb
    rw [hk.1 k i]
    unfold rowV at y
    cases e : firstAt (rows.map (·.r)) k i with
    | none => rw [e] at y; exact y
    | some j => rw [e] at y; exact y
end
section
variable {P : Program} {w : World} {K : PySem.W.Frag} {mg : Str → Option Value} {base : Heap}
variable {a_BadRow a_ElseputError a_NoRow a_Table a_Taken a_UnknownField a_UnknownKey a_UnknownName : Addr}
theorem lock_back {H H' : Hp} {l : Addr} {od : Obj} {u : HO} (h : H l = some u) (s : Same (upd H l (.frz od u)) H') : Same H (upd H' l u) := fun b o hb => by
  by_cases e : b = l
  · rw [e, upd_same, ← h, ← e]
    exact hb
  · rw [upd_ne e]
    exact s _ _ (by rw [upd_ne e]; exact hb)
def newOk (ks fs zs ys : List Str) : Bool := decide (zs ≠ []) && (zs.all (fun z => decide (z ∈ ks)) && (decide (ys.length = fs.length) && ys.all fun z => decide (z ∈ fs)))
def BadRX (K : PySem.W.Frag) (H : Hp) (E : XK) : Prop := ∀ (C : Addr) (H' : Hp), PySem.W.nsIn K mainGlobals "BadRow" = some (some (.ref C)) → Same H H' → E (.ref C) none H'
def sp_Table__check_new (K : PySem.W.Frag) : Sp := fun vs H Q E => ∃ (a L F p c : Addr) (ks fs zs ys : List Str) (rows : List Tr) (pl ct : Kvs), vs = [.ref a, .ref p, .ref c] ∧ TbAt K H a L F ks fs rows ∧ H p = some (.dK pl) ∧ H c = some (.dK ct) ∧ pl.map Prod.fst = zs.map kS ∧ ct.map Prod.fst = ys.map kS ∧ pl.length ≤ 100 ∧ ct.length ≤ 4 ∧ fs.Nodup ∧ fs.length ≤ 50 ∧
  if newOk ks fs zs ys = true then ∀ H', Same H H' → Q .non H' else BadRX K H E
theorem len_Table__check_new {vs : List V} {H : Hp} {Q : VK} {E : XK} (h : sp_Table__check_new K vs H Q E) : vs.length = 3 := by
  obtain ⟨_, _, _, _, _, _, _, _, _, _, _, _, rfl, _⟩ := h
  rfl
theorem ok_Table__check_new {f : Addr} {fd : FuncData} {f_BadRow : Addr} {fd_BadRow : FuncData} (F : Fun K "_check_new" "Table._check_new" s_Table__check_new f fd) (T : Gs K mg a_BadRow a_ElseputError a_NoRow a_Table a_Taken a_UnknownField a_UnknownKey a_UnknownName) (c_BadRow : CalE0 P w K mg base 1 "BadRow" a_BadRow f_BadRow fd_BadRow ["self"]) : FnOk P w K mg base (L2.CX P w) 3 f fd ["self", "places", "content"] (sp_Table__check_new K) := by
  refine F.okX sc_Table__check_new (fun vs H Q E h => len_Table__check_new h) (fun cdv A outer s H vs Q E hr h => ?_)
  obtain ⟨a, L, F, p, c, ks, fs, zs, ys, rows, pl, ct, rfl, ⟨C, dx, t, u, vs, kvs, hC, ha, ht, hu, hL, hr', hF, hk⟩, hp, hc, ez, ey, pl100, few, fnd, f50, q⟩ := h
  cases hC.symm.trans T.n_Table
  refine ⟨_, (pss_cons (ps_if (PW.pt (pw_or (pt_c (eqK K hr.units) (pe_callB (lenK K) (by rfl) T.z_len PySem.boot_len (pa_cons (v_ 1) pa_nil)) pe_int) (pw_or1 (pt_t K (pe_callB (anyK K rfl) (by rfl) T.z_any (by decide +kernel) (pa_cons (pe_lock (pe_lc (own := [("key", 3)]) (g := gName 3) (by rfl) sc_Table__check_new.nd (pi_keys (v_ 1)) (blkOk_by (N := ["self", "places", "content", "key"]) (sc := defScope s_Table__check_new) (by decide +kernel)) (fun _ _ _ _ _ => pg_name (i := 3) sc_Table__check_new.nd rfl (Or.inl rfl)) (fun _ _ _ _ _ => pts_nil) (fun _ _ _ _ _ => (pe_c (notInK K) (v_ 3) (e_f K (v_ 0)))))) pa_nil)))))) (pss_one (ps_raise rfl (takes_of rfl rfl rfl rfl) (pmk_none c_BadRow.X.oex c_BadRow.X.iC c_BadRow.X.tI c_BadRow.G (hr.mono (by first | decide | omega)) c_BadRow.b pass0 rfl c_BadRow.m))) pss_nil) (pss_one (ps_if (pt_c (neSetK hr.units) (pe_callTy (setDK K) (by rfl) T.z_set (by decide +kernel) (pa_cons (v_ 2) pa_nil)) (pe_callTy (setDK K) (by rfl) T.z_set (by decide +kernel) (pa_cons (e_f K (v_ 0)) pa_nil))) (pss_one (ps_raise rfl (takes_of rfl rfl rfl rfl) (pmk_none c_BadRow.X.oex c_BadRow.X.iC c_BadRow.X.tI c_BadRow.G (hr.mono (by first | decide | omega)) c_BadRow.b pass0 rfl c_BadRow.m))) pss_nil))), ?_⟩
  have zl : pl.length = zs.length := by
    have := congrArg List.length ez
    rwa [List.length_map, List.length_map] at this
  have yl : ct.length = ys.length := by
    have := congrArg List.length ey
    rwa [List.length_map, List.length_map] at this
  refine .inr ⟨pl, hp, ?_⟩
  refine ite2 (fun e => ?_) (fun e => ?_)
  · have e : (pl.length : Int) = 0 := of_decide_eq_true e
    have e : zs = [] := List.length_eq_zero_iff.mp (by omega)
    rw [if_neg (by rw [newOk, e]; simp)] at q
    exact q _ _ T.n_BadRow (Same.refl H)
  have e : zs ≠ [] := fun h => e (decide_eq_true (by rw [zl, h]; rfl))
  refine ⟨p, _, hp, trivial, fun od => ?_⟩
  have ap : a ≠ p := ne_of ha hp (by intro z; cases z)
  have tp : t ≠ p := ne_of ht hp (by intro z; cases z)
  have ha1 : upd H p (.frz od (.dK pl)) a = some (.ins a_Table dx [("key_names", .ref t), ("field_names", .ref u), ("_rows", .ref L), ("_first_rows", .ref F)]) := by rw [upd_ne ap]; exact ha
  have ht1 : upd H p (.frz od (.dK pl)) t = some (.tup (ks.map V.str)) := by rw [upd_ne tp]; exact ht
  have hp1 : upd H p (.frz od (.dK pl)) p = some (.frz od (.dK pl)) := upd_same
  have back : ∀ {H' : Hp}, Same (upd H p (.frz od (.dK pl))) H' → Same H (upd H' p (.dK pl)) := fun s => lock_back hp s
  generalize upd H p (.frz od (.dK pl)) = H1 at ha1 ht1 hp1 back ⊢
  refine ⟨p, od, rfl, .inl ⟨pl, hp1, fun D nD => ?_⟩⟩
  refine lc_it (walk_keys (kvs := pl)) (fun i H' => Same H1 H' ∧ H' D = some (.lst (((zs.take i).map fun z => !decide (z ∈ ks)).map V.bl))) ⟨same_new nD, upd_same⟩ (fun _ _ _ h => h.1 _ _ hp1) ?_ ?_
  · rintro i x H2 H3 hi ⟨s2, hD⟩ ⟨rfl, k, v, ek, rfl⟩
    have e1 : (pl.map Prod.fst)[i]? = some k := by rw [List.getElem?_map, ek]; rfl
    rw [ez, List.getElem?_map] at e1
    obtain ⟨z, e2, rfl⟩ := Option.map_eq_some_iff.mp e1
    refine ⟨rfl, a, a_Table, dx, _, _, rfl, s2 _ _ ha1, T.cl_Table, T.na_Table_key_names, rfl, _, .inr (SqT.of (s2 _ _ ht1)), rfl, flat_strs, ?_⟩
    refine ⟨_, hD, line_lt (by rw [List.length_map, List.length_map, List.length_take]; omega), fun b o hb => by rw [upd_ne (ne_of_none hb nD)]; exact s2 _ _ hb, ?_⟩
    rw [upd_same, take_snoc e2, List.map_append, List.map_append]
    have e3 : inV (kV (kS z)) (ks.map V.str) = decide (z ∈ ks) := inV_str
    rw [e3]
    rfl
  rintro H2 ⟨s2, hD⟩
  rw [zl, List.take_length] at hD
  have Dp : D ≠ p := fun e => by rw [e, hp1] at nD; cases nD
  refine ⟨s2 _ _ hp1, D, _, rfl, SqL.of (by rw [upd_ne Dp]; exact hD), ?_⟩
  have sB := back s2
  generalize upd H2 p (.dK pl) = H3 at sB ⊢
  refine ite2 (fun e2 => ?_) (fun e2 => ?_)
  · have e2 : ((zs.map fun z => !decide (z ∈ ks)).any id) = true := e2
    rw [if_neg (fun h => by
      obtain ⟨b, hb, hb2⟩ := List.any_eq_true.mp e2
      obtain ⟨z, hz, rfl⟩ := List.mem_map.mp hb
      unfold newOk at h
      rw [Bool.and_eq_true, Bool.and_eq_true, List.all_eq_true] at h
      have := h.2.1 z hz
      rw [id, this] at hb2
      cases hb2)] at q
    exact q _ _ T.n_BadRow sB
  have e2 : zs.all (fun z => decide (z ∈ ks)) = true := by
    have e2 : ¬ ((zs.map fun z => !decide (z ∈ ks)).any id) = true := e2
    refine List.all_eq_true.mpr fun z hz => ?_
    cases hd : decide (z ∈ ks) with
    | true => rfl
    | false => exact absurd (List.any_eq_true.mpr ⟨_, List.mem_map.mpr ⟨z, hz, rfl⟩, by rw [hd]; rfl⟩) e2
  refine .inl ⟨c, ct, rfl, sB _ _ hc, few, fun p1 n1 => ?_⟩
  have s4 := same_new (o := SetK P w p1 (fun k => ct.any fun q => decide (q.1 = k)) ct.length) n1
  have h1 := upd_same (H := H3) (a := p1) (o := SetK P w p1 (fun k => ct.any fun q => decide (q.1 = k)) ct.length)
  have s14 := sB.trans s4
  refine ⟨a, a_Table, dx, _, _, rfl, s14 _ _ ha, T.cl_Table, T.na_Table_field_names, rfl, .inr ⟨u, fs, rfl, SqT.of (s14 _ _ hu), by omega, fnd, fun p2 n2 => ?_⟩⟩
  refine ⟨p1, p2, _, _, _, _, rfl, rfl, same_new n2 _ _ h1, upd_same, fun r hr => ?_⟩
  have s15 := s14.trans (same_new (o := SetK P w p2 (fun k => match k with | .inr z => decide (z ∈ fs) | .inl _ => false) fs.length) n2)
  have eq : (ct.length = fs.length ∧ ∀ k : Key, (ct.any fun q => decide (q.1 = k)) = true → (match k with | .inr z => decide (z ∈ fs) | .inl _ => false) = true) ↔ (decide (ys.length = fs.length) && ys.all fun z => decide (z ∈ fs)) = true := by
    rw [Bool.and_eq_true, decide_eq_true_iff, List.all_eq_true, yl]
    refine and_congr_right fun _ => ⟨fun h y hy => h (kS y) ?_, fun h k hk => ?_⟩
    · have : kS y ∈ ct.map Prod.fst := by rw [ey]; exact List.mem_map.mpr ⟨y, hy, rfl⟩
      obtain ⟨w, hw, e⟩ := List.mem_map.mp this
      exact List.any_eq_true.mpr ⟨w, hw, decide_eq_true e⟩
    · obtain ⟨w, hw, e⟩ := List.any_eq_true.mp hk
      have e := of_decide_eq_true e
      have : k ∈ ct.map Prod.fst := List.mem_map.mpr ⟨w, hw, e⟩
      rw [ey] at this
      obtain ⟨y, hy, rfl⟩ := List.mem_map.mp this
      exact h y hy
  have hr2 := hr.trans eq
  have eo : newOk ks fs zs ys = !r := by
    unfold newOk
    rw [decide_eq_true e, e2, Bool.true_and, Bool.true_and]
    cases r with
    | false => exact hr2.mp rfl
    | true =>
      cases hb : (decide (ys.length = fs.length) && ys.all fun z => decide (z ∈ fs)) with
      | false => rfl
      | true => exact nomatch hr2.mpr hb
  rw [eo] at q
  refine ite2 (fun c => ?_) (fun c => ?_)
  · have c : r = true := c
    rw [c] at q
    exact q _ _ T.n_BadRow s15
  · have c : r = false := by simpa using c
    rw [c] at q
    exact q _ s15
end
section
variable {P : Program} {w : World} {K : PySem.W.Frag} {mg : Str → Option Value} {base : Heap}
variable {a_BadRow a_ElseputError a_NoRow a_Table a_Taken a_UnknownField a_UnknownKey a_UnknownName : Addr}
theorem hits_snoc {k z : Str} {i v : Int} {Q c : Kvs} (h : valV Q (kS z) = none) : hits k i (Q ++ [(kS z, .int v)], c) = if k = z then decide (v = i) else hits k i (Q, c) := by
  unfold hits
  rw [show ((Q ++ [(kS z, V.int v)], c) : TRow).1 = Q ++ [(kS z, V.int v)] from rfl, valV_snoc _ _ _ _ h]
  by_cases e : k = z
  · rw [if_pos (congrArg kS e), if_pos e]
  · rw [if_neg (fun h => e (kS_inj h)), if_neg e]
theorem hits_c {k : Str} {i : Int} {Q c c' : Kvs} : hits k i (Q, c) = hits k i (Q, c') := rfl
theorem first_snoc {R : List TRow} {r : TRow} {k : Str} {i : Int} : firstAt (R ++ [r]) k i = match firstAt R k i with
    | some j => some j
    | none => if hits k i r = true then some R.length else none := by
  unfold firstAt
  rw [List.findIdx?_append]
  cases List.findIdx? (hits k i) R with
  | some j => rfl
  | none =>
    rw [List.findIdx?_cons]
    by_cases h : hits k i r = true
    · rw [if_pos h, if_pos h]; simp
    · rw [if_neg h, if_neg h]; simp
def sp_Table__add (K : PySem.W.Frag) : Sp := fun vs H Q _ => ∃ (a L F p c : Addr) (ks fs : List Str) (rows : List Tr) (pl ct : Kvs), vs = [.ref a, .ref p, .ref c] ∧ TbAt K H a L F ks fs rows ∧ H p = some (.dK pl) ∧ H c = some (.dK ct) ∧ Ints pl ∧ ks.Nodup ∧ ks.length ≤ 4 ∧ fs.Nodup ∧ fs.length ≤ 50 ∧ (∀ z ∈ fs, (valV ct (kS z)).isSome = true) ∧ rows.length ≤ 1000 ∧
  ∀ (H' : Hp) (x : Tr), Fr (fun b => b = L ∨ b = F) H H' → H x.p = none → H x.c = none → x.p ≠ x.c → x.r = (ordK ks pl, ordK fs ct) → TbAt K H' a L F ks fs (rows ++ [x]) → Q (.int (rows.length : Int)) H'
theorem len_Table__add {vs : List V} {H : Hp} {Q : VK} {E : XK} (h : sp_Table__add K vs H Q E) : vs.length = 3 := by
  obtain ⟨_, _, _, _, _, _, _, _, _, _, rfl, _⟩ := h
  rfl
theorem ok_Table__add {f : Addr} {fd : FuncData} (F : Fun K "_add" "Table._add" s_Table__add f fd) (T : Gs K mg a_BadRow a_ElseputError a_NoRow a_Table a_Taken a_UnknownField a_UnknownKey a_UnknownName) : FnOk P w K mg base CX0 1 f fd ["self", "places", "content"] (sp_Table__add K) := by
  refine F.ok sc_Table__add (fun vs H Q E h => len_Table__add h) (fun cdv A outer s H vs Q E hr h => ?_)
  obtain ⟨a, L, F, p, c, ks, fs, rows, pl, ct, rfl, ⟨C, dx, t, u, vs, kvs, hC, ha, ht, hu, hL, hrw, hF, hk⟩, hp, hc, pi, knd, k4, fnd, f50, fin, r1000, q⟩ := h
  cases hC.symm.trans T.n_Table
  refine ⟨_, (pss_cons (ps_set (i := 3) sc_Table__add.nd rfl (.inl rfl) (pe_callB (lenK K) (by rfl) T.z_len PySem.boot_len (pa_cons (e_f K (v_ 0)) pa_nil))) (pss_cons (ps_setDc (i := 4) (own := [("key", 6)]) (g := gName 6) (by rfl) sc_Table__add.nd rfl rfl (sw_trueD rfl rfl rfl (by decide +kernel)) (pi_tup (e_f K (v_ 0))) (blkOk_by (N := ["self", "places", "content", "number", "own_places", "own_content", "key", "value", "field"]) (sc := defScope s_Table__add) (by decide +kernel)) (fun _ _ _ _ _ => pg_name (i := 6) sc_Table__add.nd rfl (Or.inl rfl)) (fun _ _ _ _ _ => pts_one (pt_cmp (pc_din (hu_of hr) (v_ 6) (v_ 1)))) (fun _ _ _ _ _ => (v_ 6)) (fun _ _ _ _ _ => (pe_dget (hu_of hr) (v_ 1) (v_ 6) (fun _ _ => rfl)))) (pss_cons (ps_setDc (i := 5) (own := [("field", 8)]) (g := gName 8) (by rfl) sc_Table__add.nd rfl rfl (sw_trueD rfl rfl rfl (by decide +kernel)) (pi_tup (e_f K (v_ 0))) (blkOk_by (N := ["self", "places", "content", "number", "own_places", "own_content", "key", "value", "field"]) (sc := defScope s_Table__add) (by decide +kernel)) (fun _ _ _ _ _ => pg_name (i := 8) sc_Table__add.nd rfl (Or.inl rfl)) (fun _ _ _ _ _ => pts_nil) (fun _ _ _ _ _ => (v_ 8)) (fun _ _ _ _ _ => (pe_dget (hu_of hr) (v_ 2) (v_ 8) (fun _ _ => rfl)))) (pss_cons (ps_expr (pe_bm PySem.F.plainAttrs_list PySem.F.slot_list_append PySem.F.type_list_append mt_append (e_f K (v_ 0)) (pa_cons (pe_tup (pa_cons (v_ 4) (pa_cons (v_ 5) pa_nil))) pa_nil))) (pss_cons (ps_lock (ps_for PassesOwn.never rfl (pi_items (v_ 4)) (pg_tup (by rfl) (pgs_cons (pg_name (i := 6) sc_Table__add.nd rfl (.inl rfl)) (pgs_cons (pg_name (i := 7) sc_Table__add.nd rfl (.inl rfl)) pgs_nil))) (pss_one (ps_if (pt_cmp (pc_dnotin (hu_of hr) (pe_tup (pa_cons (v_ 6) (pa_cons (v_ 7) pa_nil))) (e_f K (v_ 0)))) (pss_one (ps_asg (v_ 3) (pg_sub (e_f K (v_ 0)) (pe_tup (pa_cons (v_ 6) (pa_cons (v_ 7) pa_nil))) (set_dict (hu_of hr))))) pss_nil)))) (pss_one (ps_ret (v_ 3)))))))), ?_⟩
  have rl := hrw.len
  refine ⟨a, a_Table, dx, _, _, rfl, ha, T.cl_Table, T.na_Table__rows, rfl, .inl ⟨_, .inl (SqL.of hL), ?_⟩⟩
  -- its own places
  refine ⟨a, a_Table, dx, _, _, rfl, ha, T.cl_Table, T.na_Table_key_names, rfl, t, rfl, ⟨_, SqT.of ht⟩, fun D1 n1 => ?_⟩
  refine dc_tup (K := K) (a := t) (xs := ks.map V.str) (fun i H' => Same H H' ∧ H' D1 = some (.dK (ordK (ks.take i) pl))) ⟨same_new n1, upd_same⟩ (fun i H' _ h => SqT.of (h.1 _ _ ht)) ?_ ?_
  · rintro i x H1 hx ⟨s1, hD⟩
    rw [List.getElem?_map] at hx
    obtain ⟨z, ez, rfl⟩ := Option.map_eq_some_iff.mp hx
    have tk := take_snoc ez
    have ndz : (ks.take i ++ [z]).Nodup := by rw [← tk]; exact knd.sublist (List.take_sublist _ _)
    refine ⟨rfl, p, _, rfl, DGet.k (k := kS z) (s1 _ _ hp), _, rfl, ?_⟩
    cases e : valV pl (kS z) with
    | none =>
      refine ⟨s1, ?_⟩
      rw [hD, tk, ord_snoc, e]
    | some v =>
      refine ⟨p, v, rfl, by rw [← e]; exact DGet.k (k := kS z) (s1 _ _ hp), _, kS z, rfl, hD, line_lt (by have := ord_len (ks := ks.take i) (l := pl); rw [List.length_take] at this; omega), fun b o hb => by rw [upd_ne (ne_of_none hb n1)]; exact s1 _ _ hb, ?_⟩
      rw [upd_same, ord_put ndz e, tk]
  rintro H1 ⟨s1, hD1⟩
  rw [List.length_map, List.take_length] at hD1
  -- its own content
  refine ⟨a, a_Table, dx, _, _, rfl, s1 _ _ ha, T.cl_Table, T.na_Table_field_names, rfl, u, rfl, ⟨_, SqT.of (s1 _ _ hu)⟩, fun D2 n2 => ?_⟩
  have n12 : D1 ≠ D2 := ne_of_none hD1 n2
  refine dc_tup (K := K) (a := u) (xs := fs.map V.str) (fun i H' => Same H1 H' ∧ H' D2 = some (.dK (ordK (fs.take i) ct))) ⟨same_new n2, upd_same⟩ (fun i H' _ h => SqT.of (h.1 _ _ (s1 _ _ hu))) ?_ ?_
  · rintro i x H2 hx ⟨s2, hD⟩
    rw [List.getElem?_map] at hx
    obtain ⟨z, ez, rfl⟩ := Option.map_eq_some_iff.mp hx
    have tk := take_snoc ez
    have ndz : (fs.take i ++ [z]).Nodup := by rw [← tk]; exact fnd.sublist (List.take_sublist _ _)
    obtain ⟨v, e⟩ := Option.isSome_iff_exists.mp (fin z (List.mem_of_getElem? ez))
    refine ⟨rfl, c, v, rfl, by rw [← e]; exact DGet.k (k := kS z) (s2 _ _ (s1 _ _ hc)), _, kS z, rfl, hD, line_lt (by have := ord_len (ks := fs.take i) (l := ct); rw [List.length_take] at this; omega), fun b o hb => by rw [upd_ne (ne_of_none hb n2)]; exact s2 _ _ hb, ?_⟩
    rw [upd_same, ord_put ndz e, tk]
  rintro H2 ⟨s2, hD2⟩
  rw [List.length_map, List.take_length] at hD2
  have s12 := s1.trans s2
  have hD1 := s2 _ _ hD1
  have f2 : H D2 = none := Same.free s1 n2
  clear s1 s2
  refine ⟨a, a_Table, dx, _, _, rfl, s12 _ _ ha, T.cl_Table, T.na_Table__rows, rfl, .inl ⟨rfl, _, SqL.of (s12 _ _ hL)⟩, (by show 2 ≤ sizeLine; decide), fun tt nt => ?_⟩
  have s3 := same_new (o := .tup [.ref D1, .ref D2]) nt
  have htt := upd_same (H := H2) (a := tt) (o := .tup [.ref D1, .ref D2])
  have s13 := s12.trans s3
  have hD1 := s3 _ _ hD1
  have hD2 := s3 _ _ hD2
  generalize upd H2 tt (.tup [.ref D1, .ref D2]) = H3 at htt s13 hD1 hD2 ⊢
  clear s3 nt s12
  refine ⟨L, vs, .ref tt, rfl, rfl, s13 _ _ hL, line_lt (by omega), ?_⟩
  have LD1 : D1 ≠ L := fun e => by rw [e, s13 _ _ hL] at hD1; cases hD1
  have LD2 : D2 ≠ L := fun e => by rw [e, s13 _ _ hL] at hD2; cases hD2
  have LF : F ≠ L := fun e => by rw [e, hL] at hF; cases hF
  have Lt : tt ≠ L := fun e => by rw [e, s13 _ _ hL] at htt; cases htt
  have f4 : Fr (fun b => b = L ∨ b = F) H (upd H3 L (.lst (vs ++ [.ref tt]))) := fun b o n hb => by rw [upd_ne (fun e => n (.inl e))]; exact s13 _ _ hb
  have hL4 := upd_same (H := H3) (a := L) (o := .lst (vs ++ [.ref tt]))
  have hF4 : upd H3 L (.lst (vs ++ [.ref tt])) F = some (.dT kvs) := by rw [upd_ne LF]; exact s13 _ _ hF
  have hD1 : upd H3 L (.lst (vs ++ [.ref tt])) D1 = some (.dK (ordK ks pl)) := by rw [upd_ne LD1]; exact hD1
  have hD2 : upd H3 L (.lst (vs ++ [.ref tt])) D2 = some (.dK (ordK fs ct)) := by rw [upd_ne LD2]; exact hD2
  have htt : upd H3 L (.lst (vs ++ [.ref tt])) tt = some (.tup [.ref D1, .ref D2]) := by rw [upd_ne Lt]; exact htt
  generalize upd H3 L (.lst (vs ++ [.ref tt])) = H4 at f4 hL4 hF4 hD1 hD2 htt ⊢
  clear s13 LD1 LD2 LF Lt
  have mutO : ∀ b, (b = L ∨ b = F) → MutO (H b) := fun b hb => by
    rcases hb with rfl | rfl
    · rw [hL]; trivial
    · rw [hF]; trivial
  have nI : ∀ {b o}, H b = some o → ¬ MutO (some o) → ¬ (b = L ∨ b = F) := fun hb m n => by
    have := mutO _ n
    rw [hb] at this
    exact m this
  -- the first rows
  obtain ⟨zs, ezs, zsub, _⟩ := ord_keys (ks := ks) (l := pl)
  have pint := ord_ints (ks := ks) pi
  have pnd : ((ordK ks pl).map Prod.fst).Nodup := by
    rw [ezs]
    refine List.Pairwise.map _ (fun a b (h : a ≠ b) e => h (kS_inj e)) ?_
    exact knd.sublist zsub
  have plen := ord_len (ks := ks) (l := pl)
  generalize ordK ks pl = PP at hD1 ezs pint pnd plen q ⊢
  generalize ordK fs ct = Cc at hD2 q ⊢
  refine ⟨D1, _, hD1, trivial, fun od => ?_⟩
  have DF : F ≠ D1 := fun e => by rw [e, hD1] at hF4; cases hF4
  have DL : L ≠ D1 := fun e => by rw [e, hD1] at hL4; cases hL4
  have aD : a ≠ D1 := ne_of (f4 _ _ (nI ha id) ha) hD1 (by intro z; cases z)
  have ha5 : upd H4 D1 (.frz od (.dK PP)) a = some (.ins a_Table dx [("key_names", .ref t), ("field_names", .ref u), ("_rows", .ref L), ("_first_rows", .ref F)]) := by rw [upd_ne aD]; exact f4 _ _ (nI ha id) ha
  have hF5 : upd H4 D1 (.frz od (.dK PP)) F = some (.dT kvs) := by rw [upd_ne DF]; exact hF4
  have hD5 : upd H4 D1 (.frz od (.dK PP)) D1 = some (.frz od (.dK PP)) := upd_same
  have back : ∀ {H' : Hp}, Bt F (upd H4 D1 (.frz od (.dK PP))) H' → Bt F H4 (upd H' D1 (.dK PP)) := fun b x o nx hx => by
    by_cases e : x = D1
    · rw [e, upd_same, ← hD1, ← e]; exact hx
    · rw [upd_ne e]; exact b _ _ nx (by rw [upd_ne e]; exact hx)
  generalize upd H4 D1 (.frz od (.dK PP)) = H5 at ha5 hF5 hD5 back ⊢
  refine ⟨D1, od, PP, rfl, hD5, ?_⟩
  refine for_it (walk_items (kvs := PP)) (fun i σ' H' => (∃ y6 y7, σ' = [some (.ref a), some (.ref p), some (.ref c), some (.int (vs.length : Int)), some (.ref D1), some (.ref D2), y6, y7, none]) ∧ Bt F H5 H' ∧ ∃ kvs', H' F = some (.dT kvs') ∧ kvs'.length ≤ kvs.length + i ∧ ∀ k v, valV kvs' [kS k, .inl v] = match firstAt (rows.map (·.r)) k v with
      | some j => some (V.int (j : Int))
      | none => if hits k v (PP.take i, []) = true then some (.int (vs.length : Int)) else none) ⟨⟨_, _, rfl⟩, (fun _ _ _ h => h), kvs, hF5, Nat.le_refl _, fun k v => ?_⟩ (fun i σ' H' _ h => h.2.1 _ _ DF.symm hD5) ?_ ?_
  · rw [hk.1]
    cases firstAt (rows.map (·.r)) k v with
    | some j => rfl
    | none => rfl
  · rintro i x σ' H6 H7 hi ⟨⟨y6, y7, rfl⟩, b6, kvs', hF6, kl, inv⟩ ⟨tq, x1, x2, rfl, nq, rfl, e1, e2⟩
    obtain ⟨⟨kk, vv⟩, ek⟩ : ∃ q, PP[i]? = some q := ⟨_, List.getElem?_eq_getElem hi⟩
    have e1 : Option.map (fun kv => kV kv.1) PP[i]? = some x1 := e1
    have e2 : Option.map Prod.snd PP[i]? = some x2 := e2
    rw [ek] at e1 e2
    cases e1
    cases e2
    obtain ⟨v, rfl⟩ := pint _ (List.mem_of_getElem? ek)
    have ez : (PP.map Prod.fst)[i]? = some kk := by rw [List.getElem?_map, ek]; rfl
    rw [ezs, List.getElem?_map] at ez
    obtain ⟨z, _, rfl⟩ := Option.map_eq_some_iff.mp ez
    have i4 : i < 4 := by omega
    refine ⟨tq, _, rfl, SqT.of upd_same, rfl, _, _, rfl, _, _, rfl, rfl, ?_⟩
    have s7 := same_new (o := .tup [kV (kS z), .int v]) nq
    have b7 : Bt F H5 (upd H6 tq (.tup [kV (kS z), .int v])) := b6.trans (Bt.same s7)
    have hF7 := s7 _ _ hF6
    generalize upd H6 tq (.tup [kV (kS z), .int v]) = H7 at b7 hF7 ⊢
    refine ⟨(by show 2 ≤ sizeLine; decide), fun b nb => ?_⟩
    have s8 := same_new (o := .tup [kV (kS z), .int v]) nb
    have hb8 := upd_same (H := H7) (a := b) (o := .tup [kV (kS z), .int v])
    have b8 := b7.trans (Bt.same s8)
    have hF8 := s8 _ _ hF7
    generalize upd H7 b (.tup [kV (kS z), .int v]) = H8 at b8 hb8 hF8 ⊢
    have aF : a ≠ F := ne_of ha5 hF5 (by intro z; cases z)
    have ha8 := b8 _ _ aF ha5
    have nz : valV (PP.take i) (kS z) = none := by
      cases e : valV (PP.take i) (kS z) with
      | none => rfl
      | some w =>
        have m := val_mem e
        obtain ⟨j, hj, ej⟩ := List.getElem_of_mem m
        rw [List.length_take] at hj
        rw [List.getElem_take] at ej
        have x1 : (PP.map Prod.fst)[j]? = some (kS z) := by rw [List.getElem?_map, List.getElem?_eq_getElem (by omega), ej]; rfl
        have x2 : (PP.map Prod.fst)[i]? = some (kS z) := by rw [List.getElem?_map, ek]; rfl
        have := (List.getElem?_inj (List.getElem?_eq_some_iff.mp x1).1 pnd).mp (x1.trans x2.symm)
        omega
    have tk : PP.take (i + 1) = PP.take i ++ [(kS z, .int v)] := take_snoc ek
    have hs : ∀ k w, hits k w (PP.take (i + 1), []) = if k = z then decide (v = w) else hits k w (PP.take i, []) := fun k w => by rw [tk]; exact hits_snoc nz
    have h0 : hits z v (PP.take i, []) = false := by
      unfold hits
      rw [show ((PP.take i, ([] : Kvs)) : TRow).1 = PP.take i from rfl, nz]
    have ivz := inv z v
    rw [h0] at ivz
    refine ⟨a, a_Table, dx, _, _, rfl, ha8, T.cl_Table, T.na_Table__first_rows, rfl, F, _, rfl, DGet.t (k := [kS z, .inl v]) hF8 hb8, _, rfl, ?_⟩
    cases e : valV kvs' [kS z, .inl v] with
    | some w =>
      refine ite2 (fun h => nomatch h) (fun _ => ?_)
      refine ⟨⟨_, _, rfl⟩, b8, kvs', hF8, by omega, fun k u' => ?_⟩
      rw [inv, hs]
      by_cases ekz : k = z
      · subst ekz
        rw [if_pos rfl]
        by_cases eu : v = u'
        · subst eu
          rw [e] at ivz
          cases ef : firstAt (rows.map (·.r)) k v with
          | some j => rfl
          | none => rw [ef] at ivz; cases ivz
        · have h1 : hits k u' (PP.take i, []) = false := by
            unfold hits
            rw [show ((PP.take i, ([] : Kvs)) : TRow).1 = PP.take i from rfl, nz]
          rw [h1, decide_eq_false eu]
      · rw [if_neg ekz]
    | none =>
      refine ite2 (fun _ => ?_) (fun h => absurd rfl h)
      refine ⟨a, a_Table, dx, _, _, rfl, ha8, T.cl_Table, T.na_Table__first_rows, rfl, (by show 2 ≤ sizeLine; decide), fun d nd => ?_⟩
      have s9 := same_new (o := .tup [kV (kS z), .int v]) nd
      have hd9 := upd_same (H := H8) (a := d) (o := .tup [kV (kS z), .int v])
      have b9 := b8.trans (Bt.same s9)
      have hF9 := s9 _ _ hF8
      generalize upd H8 d (.tup [kV (kS z), .int v]) = H9 at b9 hd9 hF9 ⊢
      have kb := hk.2
      rw [List.length_map] at kb
      refine ⟨F, _, rfl, DPut.t (k := [kS z, .inl v]) hF9 hd9 (line_lt (by omega)), ?_⟩
      refine ⟨⟨_, _, rfl⟩, b9.trans Bt.st, _, upd_same, by have := length_putK kvs' [kS z, .inl v] (.int (vs.length : Int)); omega, fun k u' => ?_⟩
      rw [valV_put, hs]
      by_cases ekz : k = z
      · subst ekz
        rw [if_pos rfl]
        by_cases eu : v = u'
        · subst eu
          rw [if_pos rfl, decide_eq_true rfl]
          rw [e] at ivz
          cases ef : firstAt (rows.map (·.r)) k v with
          | some j => rw [ef] at ivz; cases ivz
          | none => rfl
        · have ne : ¬ ([kS k, .inl u'] : List Key) = [kS k, .inl v] := fun h => by
            injection h with _ h
            injection h with h _
            exact eu (Sum.inl.inj h).symm
          have h1 : hits k u' (PP.take i, []) = false := by
            unfold hits
            rw [show ((PP.take i, ([] : Kvs)) : TRow).1 = PP.take i from rfl, nz]
          rw [if_neg ne, inv, h1, decide_eq_false eu]
      · have ne : ¬ ([kS k, .inl u'] : List Key) = [kS z, .inl v] := fun h => by
          injection h with h _
          exact ekz (kS_inj h)
        rw [if_neg ne, inv, if_neg ekz]
  · rintro σ' H6 ⟨⟨y6, y7, rfl⟩, b6, kvs', hF6, kl, inv⟩
    rw [List.take_length] at inv
    refine ⟨b6 _ _ DF.symm hD5, ?_⟩
    have bB := back b6
    have hF7 : upd H6 D1 (.dK PP) F = some (.dT kvs') := by rw [upd_ne DF]; exact hF6
    generalize upd H6 D1 (.dK PP) = H7 at bB hF7 ⊢
    have fA : Fr (fun b => b = L ∨ b = F) H H7 := f4.trans (Fr.bt bB (.inr rfl))
    have tF : tt ≠ F := fun e => by rw [e, hF4] at htt; cases htt
    have D2F : D2 ≠ F := fun e => by rw [e, hF4] at hD2; cases hD2
    have LF : L ≠ F := fun e => by rw [e, hF4] at hL4; cases hL4
    have f1 : H D1 = none := n1
    rw [rl] at inv ⊢
    refine q H7 ⟨D1, D2, (PP, Cc)⟩ fA n1 f2 n12 rfl ⟨a_Table, dx, t, u, vs ++ [.ref tt], kvs', T.n_Table, fA _ _ (nI ha id) ha, fA _ _ (nI ht id) ht, fA _ _ (nI hu id) hu, bB _ _ LF hL4, ?_, hF7, fun k v => ?_, ?_⟩
    · have go : All2 (RowAt H7) vs rows := hrw.imp fun v x h => by
        obtain ⟨t, e, h1, h2, h3⟩ := id h
        exact h.keep fA (fun n => by rcases n with n | n <;> rw [n] at h2 <;> first | (rw [hL] at h2; cases h2) | (rw [hF] at h2; cases h2)) (fun n => by rcases n with n | n <;> rw [n] at h3 <;> first | (rw [hL] at h3; cases h3) | (rw [hF] at h3; cases h3)) mutO
      exact go.snoc ⟨tt, rfl, bB _ _ tF htt, bB _ _ DF.symm hD1, bB _ _ D2F hD2⟩
    · rw [inv, List.map_append, List.map_cons, List.map_nil, first_snoc, List.length_map, hits_c (c' := Cc)]
      cases firstAt (rows.map (·.r)) k v with
      | some j => rfl
      | none =>
        by_cases h : hits k v (PP, Cc) = true
        · rw [if_pos h, if_pos h]; rfl
        · rw [if_neg h, if_neg h]; rfl
    · have := hk.2
      rw [List.length_map] at this ⊢
      rw [List.length_append]
      show _ ≤ 4 * (_ + 1)
      omega
end
section
variable {P : Program} {w : World} {K : PySem.W.Frag} {mg : Str → Option Value} {base : Heap}
variable {a_BadRow a_ElseputError a_NoRow a_Table a_Taken a_UnknownField a_UnknownKey a_UnknownName : Addr}
structure PutIn (H : Hp) (p c : Addr) (ks fs zs ys : List Str) (n : Nat) (pl ct : Kvs) : Prop where
  hp : H p = some (.dK pl)
  hc : H c = some (.dK ct)
  ez : pl.map Prod.fst = zs.map kS
  ey : ct.map Prod.fst = ys.map kS
  pi : Ints pl
  p100 : pl.length ≤ 100
  few : ct.length ≤ 4
  ynd : ys.Nodup
  knd : ks.Nodup
  k4 : ks.length ≤ 4
  fnd : fs.Nodup
  f50 : fs.length ≤ 50
  r1000 : n ≤ 1000
theorem PutIn.same {H H' : Hp} {p c : Addr} {ks fs zs ys : List Str} {n : Nat} {pl ct : Kvs} (h : PutIn H p c ks fs zs ys n pl ct) (s : Same H H') : PutIn H' p c ks fs zs ys n pl ct := ⟨s _ _ h.hp, s _ _ h.hc, h.ez, h.ey, h.pi, h.p100, h.few, h.ynd, h.knd, h.k4, h.fnd, h.f50, h.r1000⟩
theorem sub_eq {ys fs : List Str} (nd : ys.Nodup) (fd : fs.Nodup) (l : ys.length = fs.length) (s : ∀ z ∈ ys, z ∈ fs) : ∀ z ∈ fs, z ∈ ys := by
  induction ys generalizing fs with
  | nil =>
    have : fs = [] := List.length_eq_zero_iff.mp l.symm
    rw [this]
    exact fun _ h => h
  | cons y r ih =>
    obtain ⟨n1, n2⟩ := List.nodup_cons.mp nd
    have ym := s y List.mem_cons_self
    have le : (fs.erase y).length = fs.length - 1 := List.length_erase_of_mem ym
    rw [List.length_cons] at l
    have := ih (fs := fs.erase y) n2 (fd.erase y) (by omega) fun z hz => (List.mem_erase_of_ne (fun e : z = y => n1 (by rw [← e]; exact hz))).mpr (s z (List.mem_cons_of_mem _ hz))
    intro z hz
    by_cases e : z = y
    · exact e ▸ List.mem_cons_self
    · exact List.mem_cons_of_mem _ (this z ((List.mem_erase_of_ne e).mpr hz))
theorem key_some {l : Kvs} {k : Key} (h : k ∈ l.map Prod.fst) : (valV l k).isSome = true := by
  obtain ⟨w, hw, e⟩ := List.mem_map.mp h
  rw [← valV_any]
  exact List.any_eq_true.mpr ⟨w, hw, decide_eq_true e⟩
theorem PutIn.all {H : Hp} {p c : Addr} {ks fs zs ys : List Str} {n : Nat} {pl ct : Kvs} (h : PutIn H p c ks fs zs ys n pl ct) (ok : newOk ks fs zs ys = true) : ∀ z ∈ fs, (valV ct (kS z)).isSome = true := fun z hz => by
  unfold newOk at ok
  rw [Bool.and_eq_true, Bool.and_eq_true, Bool.and_eq_true, decide_eq_true_iff, decide_eq_true_iff, List.all_eq_true, List.all_eq_true] at ok
  refine key_some ?_
  rw [h.ey]
  exact List.mem_map.mpr ⟨z, sub_eq h.ynd h.fnd ok.2.2.1 (fun y hy => of_decide_eq_true (ok.2.2.2 y hy)) z hz, rfl⟩
/-- a row added -/
def AddO (K : PySem.W.Frag) (H : Hp) (a L F : Addr) (ks fs : List Str) (rows : List Tr) (pl ct : Kvs) (Q : VK) : Prop := ∀ (H' : Hp) (x : Tr), Fr (fun b => b = L ∨ b = F) H H' → H x.p = none → H x.c = none → x.p ≠ x.c → x.r = (ordK ks pl, ordK fs ct) → TbAt K H' a L F ks fs (rows ++ [x]) → Q (.int (rows.length : Int)) H'
theorem AddO.same {K : PySem.W.Frag} {H H1 : Hp} {a L F : Addr} {ks fs : List Str} {rows : List Tr} {pl ct : Kvs} {Q : VK} (h : AddO K H a L F ks fs rows pl ct Q) (s : Same H H1) : AddO K H1 a L F ks fs rows pl ct Q := fun H' x f n1 n2 ne e t => h H' x (Fr.trans (Fr.same s) f) (Same.free s n1) (Same.free s n2) ne e t
def sp_Table_enter (K : PySem.W.Frag) : Sp := fun vs H Q E => ∃ (a L F p c : Addr) (ks fs zs ys : List Str) (rows : List Tr) (pl ct : Kvs), vs = [.ref a, .ref p, .ref c] ∧ TbAt K H a L F ks fs rows ∧ PutIn H p c ks fs zs ys rows.length pl ct ∧ if newOk ks fs zs ys = true then AddO K H a L F ks fs rows pl ct Q else BadRX K H E
theorem len_Table_enter {vs : List V} {H : Hp} {Q : VK} {E : XK} (h : sp_Table_enter K vs H Q E) : vs.length = 3 := by
  obtain ⟨_, _, _, _, _, _, _, _, _, _, _, _, rfl, _⟩ := h
  rfl
theorem ok_Table_enter {f : Addr} {fd : FuncData} {f_Table__check_new : Addr} {fd_Table__check_new : FuncData} {f_Table__add : Addr} {fd_Table__add : FuncData} (F : Fun K "enter" "Table.enter" s_Table_enter f fd) (T : Gs K mg a_BadRow a_ElseputError a_NoRow a_Table a_Taken a_UnknownField a_UnknownKey a_UnknownName) (c_Table__check_new : CalM P w K mg base (L2.CX P w) 3 a_Table "_check_new" f_Table__check_new fd_Table__check_new ["self", "places", "content"] (sp_Table__check_new K)) (c_Table__add : CalM P w K mg base CX0 1 a_Table "_add" f_Table__add fd_Table__add ["self", "places", "content"] (sp_Table__add K)) : FnOk P w K mg base (L2.CX P w) 4 f fd ["self", "places", "content"] (sp_Table_enter K) := by
  refine F.okX sc_Table_enter (fun vs H Q E h => len_Table_enter h) (fun cdv A outer s H vs Q E hr h => ?_)
  obtain ⟨a, L, F, p, c, ks, fs, zs, ys, rows, pl, ct, rfl, hT, hi, q⟩ := h
  refine ⟨_, (pss_cons (ps_expr (pe_meth (v_ 0) c_Table__check_new.cl c_Table__check_new.me c_Table__check_new.G (hr.mono (by first | decide | omega)) c_Table__check_new.b .nil (passes_call (takes_of rfl rfl rfl rfl) (fun _ _ _ _ h => h)) (pa_cons (v_ 1) (pa_cons (v_ 2) pa_nil)))) (pss_one (ps_ret (pe_meth (v_ 0) c_Table__add.cl c_Table__add.me c_Table__add.G (hr.mono (by first | decide | omega)) c_Table__add.b .nil pass0 (pa_cons (v_ 1) (pa_cons (v_ 2) pa_nil)))))), ?_⟩
  obtain ⟨C, dx, _, _, _, _, hC, ha, _⟩ := id hT
  cases hC.symm.trans T.n_Table
  refine ⟨a, dx, _, rfl, ha, rfl, ?_⟩
  refine ⟨a, L, F, p, c, ks, fs, zs, ys, rows, pl, ct, rfl, hT, hi.hp, hi.hc, hi.ez, hi.ey, hi.p100, hi.few, hi.fnd, hi.f50, ?_⟩
  by_cases ok : newOk ks fs zs ys = true
  · rw [if_pos ok] at q ⊢
    intro H1 s1
    refine ⟨a, dx, _, rfl, s1 _ _ ha, rfl, ?_⟩
    exact ⟨a, L, F, p, c, ks, fs, rows, pl, ct, rfl, hT.same s1, s1 _ _ hi.hp, s1 _ _ hi.hc, hi.pi, hi.knd, hi.k4, hi.fnd, hi.f50, hi.all ok, hi.r1000, fun H' x f n1 n2 ne e t => q.same s1 H' x f n1 n2 ne e t⟩
  · rw [if_neg ok] at q ⊢
    exact q
def takenAt (rows : List TRow) (pl : Kvs) : List Str → Option (Str × Nat)
  | [] => none
  | k :: r => match valV pl (kS k) with
    | some (.int v) => match firstAt rows k v with
      | some j => some (k, j)
      | none => takenAt rows pl r
    | _ => takenAt rows pl r
def TakenX (K : PySem.W.Frag) (H : Hp) (k : Str) (j : Nat) (E : XK) : Prop := ∀ (C d : Addr) (H' : Hp), PySem.W.nsIn K mainGlobals "Taken" = some (some (.ref C)) → Same H H' → H d = none → H' d = some (.xd [("row", .int (j : Int)), ("key", .str k)]) → E (.ref C) (some d) H'
theorem TakenX.same {K : PySem.W.Frag} {H H1 : Hp} {k : Str} {j : Nat} {E : XK} (h : TakenX K H k j E) (s : Same H H1) : TakenX K H1 k j E := fun C d H' hC s2 nd hd => h C d H' hC (s.trans s2) (Same.free s nd) hd
def sp_Table_put (K : PySem.W.Frag) : Sp := fun vs H Q E => ∃ (a L F p c : Addr) (ks fs zs ys : List Str) (rows : List Tr) (pl ct : Kvs), vs = [.ref a, .ref p, .ref c] ∧ TbAt K H a L F ks fs rows ∧ PutIn H p c ks fs zs ys rows.length pl ct ∧ (∀ z ∈ ks, z.length ≤ 1000 ∧ Asc z) ∧ if newOk ks fs zs ys = true then match takenAt (rows.map (·.r)) pl ks with
      | some (k, j) => TakenX K H k j E
      | none => AddO K H a L F ks fs rows pl ct Q
    else BadRX K H E
theorem len_Table_put {vs : List V} {H : Hp} {Q : VK} {E : XK} (h : sp_Table_put K vs H Q E) : vs.length = 3 := by
  obtain ⟨_, _, _, _, _, _, _, _, _, _, _, _, rfl, _⟩ := h
  rfl
theorem first_lt {rows : List TRow} {k : Str} {v : Int} {j : Nat} (h : firstAt rows k v = some j) : j < rows.length := (List.findIdx?_eq_some_iff_getElem.mp h).1
theorem ok_Table_put {f : Addr} {fd : FuncData} {f_Table__check_new : Addr} {fd_Table__check_new : FuncData} {f_Table__add : Addr} {fd_Table__add : FuncData} {f_Table___getitem__ : Addr} {fd_Table___getitem__ : FuncData} {f_Taken : Addr} {fd_Taken : FuncData} (F : Fun K "put" "Table.put" s_Table_put f fd) (T : Gs K mg a_BadRow a_ElseputError a_NoRow a_Table a_Taken a_UnknownField a_UnknownKey a_UnknownName) (c_Table__check_new : CalM P w K mg base (L2.CX P w) 3 a_Table "_check_new" f_Table__check_new fd_Table__check_new ["self", "places", "content"] (sp_Table__check_new K)) (c_Table__add : CalM P w K mg base CX0 1 a_Table "_add" f_Table__add fd_Table__add ["self", "places", "content"] (sp_Table__add K)) (c_Table___getitem__ : CalSub P w K mg base (L2.CX P w) 3 a_Table f_Table___getitem__ fd_Table___getitem__ ["self", "place"] (sp_Table___getitem__ K)) (c_Taken : CalE P w K mg base 1 "Taken" a_Taken f_Taken fd_Taken ["self", "key", "row"] okx_Taken fs_Taken ["key", "row"]) : FnOk P w K mg base (L2.CX P w) 5 f fd ["self", "places", "content"] (sp_Table_put K) := by
  refine F.okX sc_Table_put (fun vs H Q E h => len_Table_put h) (fun cdv A outer s H vs Q E hr h => ?_)
  obtain ⟨a, L, F, p, c, ks, fs, zs, ys, rows, pl, ct, rfl, hT, hi, kw, q⟩ := h
  refine ⟨_, (pss_cons (ps_expr (pe_meth (v_ 0) c_Table__check_new.cl c_Table__check_new.me c_Table__check_new.G (hr.mono (by first | decide | omega)) c_Table__check_new.b .nil (passes_call (takes_of rfl rfl rfl rfl) (fun _ _ _ _ h => h)) (pa_cons (v_ 1) (pa_cons (v_ 2) pa_nil)))) (pss_cons (ps_for (passes_of rfl) rfl (pi_tup (e_f K (v_ 0))) (pg_name (i := 3) sc_Table_put.nd rfl (.inl rfl)) (pss_one (ps_if (pt_cmp (pc_din (hu_of hr) (v_ 3) (v_ 1))) (pss_cons (ps_set (i := 4) sc_Table_put.nd rfl (.inl rfl) (pe_itO c_Table___getitem__.su c_Table___getitem__.G (hr.mono (by first | decide | omega)) c_Table___getitem__.b (passes_call (takes_of rfl rfl rfl rfl) (fun _ _ _ _ h => h)) (v_ 0) (pe_tup (pa_cons (v_ 3) (pa_cons (pe_dget (hu_of hr) (v_ 1) (v_ 3) (fun _ _ => rfl)) pa_nil))))) (pss_one (ps_if (pt_c op_isNotM (v_ 4) pe_non) (pss_one (ps_raise rfl (takes_of rfl rfl rfl rfl) (pmk_oex c_Taken.X.oex c_Taken.X.iC c_Taken.X.tI c_Taken.G (hr.mono (by first | decide | omega)) c_Taken.b .nil pass0 rfl c_Taken.m (pa_cons (v_ 3) (pa_cons (v_ 4) pa_nil))))) pss_nil))) pss_nil))) (pss_one (ps_ret (pe_meth (v_ 0) c_Table__add.cl c_Table__add.me c_Table__add.G (hr.mono (by first | decide | omega)) c_Table__add.b .nil pass0 (pa_cons (v_ 1) (pa_cons (v_ 2) pa_nil))))))), ?_⟩
  obtain ⟨C, dx, t, u, vs, kvs, hC, ha, ht, _⟩ := id hT
  cases hC.symm.trans T.n_Table
  refine ⟨a, dx, _, rfl, ha, rfl, ?_⟩
  refine ⟨a, L, F, p, c, ks, fs, zs, ys, rows, pl, ct, rfl, hT, hi.hp, hi.hc, hi.ez, hi.ey, hi.p100, hi.few, hi.fnd, hi.f50, ?_⟩
  by_cases ok : newOk ks fs zs ys = true
  rotate_left
  · rw [if_neg ok] at q ⊢
    exact q
  rw [if_pos ok] at q ⊢
  intro H1 s1
  refine ⟨a, a_Table, dx, _, _, rfl, s1 _ _ ha, T.cl_Table, T.na_Table_key_names, rfl, t, rfl, ⟨_, SqT.of (s1 _ _ ht)⟩, ?_⟩
  refine for_tup (K := K) (a := t) (xs := ks.map V.str) (fun i σ' H' => (∃ y3 y4, σ' = [some (.ref a), some (.ref p), some (.ref c), y3, y4]) ∧ Same H H' ∧ takenAt (rows.map (·.r)) pl ks = takenAt (rows.map (·.r)) pl (ks.drop i)) ⟨⟨_, _, rfl⟩, s1, rfl⟩ (fun _ _ _ _ h => SqT.of (h.2.1 _ _ ht)) ?_ ?_
  · rintro i x σ' H2 hx ⟨⟨y3, y4, rfl⟩, s2, go⟩
    rw [List.getElem?_map] at hx
    obtain ⟨k, ek, rfl⟩ := Option.map_eq_some_iff.mp hx
    have dr : ks.drop i = k :: ks.drop (i + 1) := by
      obtain ⟨h1, h2⟩ := List.getElem?_eq_some_iff.mp ek
      rw [List.drop_eq_getElem_cons h1, h2]
    rw [dr] at go
    have km := List.mem_of_getElem? ek
    obtain ⟨kl, ka⟩ := kw k km
    refine ⟨p, _, rfl, DGet.k (k := kS k) (s2 _ _ hi.hp), _, rfl, ?_⟩
    cases e : valV pl (kS k) with
    | none =>
      refine ⟨⟨_, _, rfl⟩, s2, go.trans ?_⟩
      show (match valV pl (kS k) with | some (.int v) => _ | _ => _) = _
      rw [e]
    | some v =>
      obtain ⟨v, rfl⟩ := hi.pi _ (val_mem e)
      refine ⟨p, .int v, rfl, by rw [← e]; exact DGet.k (k := kS k) (s2 _ _ hi.hp), (by show 2 ≤ sizeLine; decide), fun b nb => ?_⟩
      have s3 := same_new (o := .tup [.str k, .int v]) nb
      have hb := upd_same (H := H2) (a := b) (o := .tup [.str k, .int v])
      have s3 := s2.trans s3
      generalize upd H2 b (.tup [.str k, .int v]) = H3 at s3 hb ⊢
      refine ⟨a, dx, _, rfl, s3 _ _ ha, a, L, F, b, ks, fs, rows, k, v, rfl, hb, hT.same s3, kl, ka, ?_⟩
      rw [if_pos km]
      intro H4 s4
      have s4 := s3.trans s4
      have eg : takenAt (rows.map (·.r)) pl (k :: ks.drop (i + 1)) = match firstAt (rows.map (·.r)) k v with
          | some j => some (k, j)
          | none => takenAt (rows.map (·.r)) pl (ks.drop (i + 1)) := by
        show (match valV pl (kS k) with | some (.int v) => _ | _ => _) = _
        rw [e]
      rw [eg] at go
      cases ef : firstAt (rows.map (·.r)) k v with
      | some j =>
        rw [ef] at go
        rw [go] at q
        have jl := first_lt ef
        rw [List.length_map] at jl
        have r1000 := hi.r1000
        refine mk_spE (by show 2 ≤ 1000; decide) ⟨k, (j : Int), rfl, kl, ka, by omega⟩ (fun d nd => ?_)
        exact q.same s4 a_Taken d _ T.n_Taken (same_new nd) nd upd_same
      | none =>
        rw [ef] at go
        exact ⟨⟨_, _, rfl⟩, s4, go⟩
  · rintro σ' H2 ⟨⟨y3, y4, rfl⟩, s2, go⟩
    rw [List.length_map, List.drop_length] at go
    rw [go] at q
    have q : AddO K H a L F ks fs rows pl ct Q := q
    refine ⟨a, dx, _, rfl, s2 _ _ ha, rfl, ?_⟩
    exact ⟨a, L, F, p, c, ks, fs, rows, pl, ct, rfl, hT.same s2, s2 _ _ hi.hp, s2 _ _ hi.hc, hi.pi, hi.knd, hi.k4, hi.fnd, hi.f50, hi.all ok, hi.r1000, fun H' x f n1 n2 ne e t => q.same s2 H' x f n1 n2 ne e t⟩
end
section
variable {P : Program} {w : World} {K : PySem.W.Frag} {mg : Str → Option Value} {base : Heap}
variable {a_BadRow a_ElseputError a_NoRow a_Table a_Taken a_UnknownField a_UnknownKey a_UnknownName : Addr}
/-- the dicts are all different -/
def Nd (rows : List Tr) : Prop := (∀ x ∈ rows, x.p ≠ x.c) ∧ rows.Pairwise fun x y => x.p ≠ y.p ∧ x.p ≠ y.c ∧ x.c ≠ y.p ∧ x.c ≠ y.c
theorem Nd.nil : Nd [] := ⟨(fun _ h => nomatch h), .nil⟩
theorem Nd.snoc {rows : List Tr} {x : Tr} (h : Nd rows) (n : x.p ≠ x.c) (f : ∀ y ∈ rows, y.p ≠ x.p ∧ y.p ≠ x.c ∧ y.c ≠ x.p ∧ y.c ≠ x.c) : Nd (rows ++ [x]) := ⟨fun y hy => by
  rcases List.mem_append.mp hy with h1 | h1
  · exact h.1 y h1
  · rw [List.mem_singleton.mp h1]; exact n, List.pairwise_append.mpr ⟨h.2, List.pairwise_singleton _ _, fun y hy z hz => by
    rw [List.mem_singleton.mp hz]
    exact f y hy⟩⟩
theorem Nd.at {rows : List Tr} {i j : Nat} {x y : Tr} (h : Nd rows) (e1 : rows[i]? = some x) (e2 : rows[j]? = some y) (ne : i ≠ j) : x.p ≠ y.p ∧ x.p ≠ y.c ∧ x.c ≠ y.p ∧ x.c ≠ y.c := by
  obtain ⟨hi, ei⟩ := List.getElem?_eq_some_iff.mp e1
  obtain ⟨hj, ej⟩ := List.getElem?_eq_some_iff.mp e2
  have pw := List.pairwise_iff_getElem.mp h.2
  rcases Nat.lt_or_gt_of_ne ne with l | l
  · have := pw i j hi hj l
    rwa [ei, ej] at this
  · have := pw j i hj hi l
    rw [ei, ej] at this
    exact ⟨this.1.symm, this.2.2.1.symm, this.2.1.symm, this.2.2.2.symm⟩
theorem all2_set {α : Type} {R R' : V → α → Prop} {vs : List V} {as : List α} (h : All2 R vs as) : ∀ {j : Nat} {v : V} {x x' : α}, as[j]? = some x → vs[j]? = some v → R' v x' → (∀ i v y, i ≠ j → vs[i]? = some v → as[i]? = some y → R v y → R' v y) → All2 R' vs (as.set j x') := by
  induction h with
  | nil => intro j v x x' e; cases e
  | cons a b ih =>
    intro j v x x' e1 e2 r f
    cases j with
    | zero =>
      cases e2
      refine .cons r ?_
      have go : ∀ {ws : List V} {bs : List α}, All2 R ws bs → (∀ i v y, ws[i]? = some v → bs[i]? = some y → R v y → R' v y) → All2 R' ws bs := fun h => by
        induction h with
        | nil => intro _; exact .nil
        | cons a b ih => intro f; exact .cons (f 0 _ _ rfl rfl a) (ih fun i v y h1 h2 => f (i + 1) v y h1 h2)
      exact go b fun i v y h1 h2 => f (i + 1) v y (Nat.succ_ne_zero i) h1 h2
    | succ j => exact .cons (f 0 _ _ (Nat.succ_ne_zero j).symm rfl rfl a) (ih e1 e2 r fun i v y ne h1 h2 => f (i + 1) v y (fun e => ne (Nat.succ.inj e)) h1 h2)
theorem set_self {α : Type} {l : List α} {j : Nat} {y : α} (e : l[j]? = some y) : l.set j y = l := by
  obtain ⟨h, rfl⟩ := List.getElem?_eq_some_iff.mp e
  exact List.set_getElem_self h
theorem first_congr {A B : List TRow} {k : Str} {v : Int} (e : A.map Prod.fst = B.map Prod.fst) : firstAt A k v = firstAt B k v := by
  have h : ∀ C : List TRow, firstAt C k v = (C.map Prod.fst).findIdx? fun l => hits k v (l, []) := fun C => by
    rw [List.findIdx?_map]
    rfl
  rw [h A, h B, e]
def sp_Table_content_of (K : PySem.W.Frag) : Sp := fun vs H Q E => ∃ (a L F : Addr) (ks fs : List Str) (rows : List Tr) (i : Int), vs = [.ref a, .int i] ∧ TbAt K H a L F ks fs rows ∧ i.natAbs < 2 ^ 200 ∧ (∀ (j : Nat) (x : Tr), i = (j : Int) → rows[j]? = some x → ∀ (H' : Hp) (d : Addr), Same H H' → H d = none → H' d = some (.dK x.r.2) → Q (.ref d) H') ∧ (¬ (0 ≤ i ∧ i < (rows.length : Int)) → NoRowX K H i E)
theorem len_Table_content_of {vs : List V} {H : Hp} {Q : VK} {E : XK} (h : sp_Table_content_of K vs H Q E) : vs.length = 2 := by
  obtain ⟨_, _, _, _, _, _, _, rfl, _⟩ := h
  rfl
theorem ok_Table_content_of {f : Addr} {fd : FuncData} {f_Table__check_row : Addr} {fd_Table__check_row : FuncData} (F : Fun K "content_of" "Table.content_of" s_Table_content_of f fd) (T : Gs K mg a_BadRow a_ElseputError a_NoRow a_Table a_Taken a_UnknownField a_UnknownKey a_UnknownName) (c_Table__check_row : CalM P w K mg base (L2.CX P w) 3 a_Table "_check_row" f_Table__check_row fd_Table__check_row ["self", "row"] (sp_Table__check_row K)) : FnOk P w K mg base (L2.CX P w) 4 f fd ["self", "row"] (sp_Table_content_of K) := by
  refine F.okX sc_Table_content_of (fun vs H Q E h => len_Table_content_of h) (fun cdv A outer s H vs Q E hr h => ?_)
  obtain ⟨a, L, F, ks, fs, rows, i, rfl, hT, hi, q1, q2⟩ := h
  refine ⟨_, (pss_cons (ps_expr (pe_meth (v_ 0) c_Table__check_row.cl c_Table__check_row.me c_Table__check_row.G (hr.mono (by first | decide | omega)) c_Table__check_row.b .nil (passes_call (takes_of rfl rfl rfl rfl) (fun _ _ _ _ h => h)) (pa_cons (v_ 1) pa_nil))) (pss_one (ps_ret (pe_callTy call_dictD (by rfl) T.z_dict (by decide +kernel) (pa_cons (e_x K (e_x K (e_f K (v_ 0)) (v_ 1)) pe_int) pa_nil))))), ?_⟩
  obtain ⟨C, dx, t, u, vs, kvs, hC, ha, ht, hu, hL, hrw, _⟩ := id hT
  cases hC.symm.trans T.n_Table
  refine ⟨a, dx, _, rfl, ha, rfl, a, L, F, ks, fs, rows, i, rfl, hT, hi, ?_⟩
  by_cases c : 0 ≤ i ∧ i < (rows.length : Int)
  · rw [if_pos c]
    obtain ⟨j, rfl⟩ : ∃ j : Nat, i = (j : Int) := ⟨i.toNat, by omega⟩
    obtain ⟨x, ex⟩ : ∃ x, rows[j]? = some x := ⟨_, List.getElem?_eq_getElem (by omega)⟩
    obtain ⟨v, ev, tt, rfl, h1, h2, h3⟩ := hrw.to ex
    have iv : atI vs (j : Int) = some (.ref tt) := atI_nat ev
    have i1 : atI [V.ref x.p, .ref x.c] (1 : Int) = some (.ref x.c) := rfl
    refine ⟨a, a_Table, dx, _, _, rfl, ha, T.cl_Table, T.na_Table__rows, rfl, _, .inl (SqL.of hL), _, iv, _, .inr (SqT.of h1), _, i1, x.c, _, rfl, .inl h3, fun d nd => ?_⟩
    exact q1 j x rfl ex _ d (same_new nd) nd upd_same
  · rw [if_neg c]
    exact q2 c
def sp_Table_write (K : PySem.W.Frag) : Sp := fun vs H Q E => ∃ (a L F : Addr) (ks fs : List Str) (rows : List Tr) (i n : Int) (f : Str), vs = [.ref a, .int i, .str f, .int n] ∧ TbAt K H a L F ks fs rows ∧ Nd rows ∧ i.natAbs < 2 ^ 200 ∧ f.length ≤ 1000 ∧ Asc f ∧ (∀ x ∈ rows, x.r.2.length ≤ 1000) ∧ (∀ (j : Nat) (x : Tr), i = (j : Int) → rows[j]? = some x → f ∈ fs → ∀ (H' : Hp), Bt x.c H H' → TbAt K H' a L F ks fs (rows.set j ⟨x.p, x.c, (x.r.1, putK x.r.2 (kS f) (.int n))⟩) → Q .non H') ∧ (¬ (0 ≤ i ∧ i < (rows.length : Int)) → NoRowX K H i E) ∧ (0 ≤ i ∧ i < (rows.length : Int) → f ∉ fs → UnfX K H f E)
theorem len_Table_write {vs : List V} {H : Hp} {Q : VK} {E : XK} (h : sp_Table_write K vs H Q E) : vs.length = 4 := by
  obtain ⟨_, _, _, _, _, _, _, _, _, rfl, _⟩ := h
  rfl
theorem ok_Table_write {f : Addr} {fd : FuncData} {f_Table__check_row : Addr} {fd_Table__check_row : FuncData} {f_UnknownField : Addr} {fd_UnknownField : FuncData} (F : Fun K "write" "Table.write" s_Table_write f fd) (T : Gs K mg a_BadRow a_ElseputError a_NoRow a_Table a_Taken a_UnknownField a_UnknownKey a_UnknownName) (c_Table__check_row : CalM P w K mg base (L2.CX P w) 3 a_Table "_check_row" f_Table__check_row fd_Table__check_row ["self", "row"] (sp_Table__check_row K)) (c_UnknownField : CalEI P w K mg base 1 "UnknownField" a_UnknownField f_UnknownField fd_UnknownField ["self", "name"] okx_UnknownField fs_UnknownField ["name"]) : FnOk P w K mg base (L2.CX P w) 4 f fd ["self", "row", "field", "number"] (sp_Table_write K) := by
  refine F.okX sc_Table_write (fun vs H Q E h => len_Table_write h) (fun cdv A outer s H vs Q E hr h => ?_)
  obtain ⟨a, L, F, ks, fs, rows, i, n, f, rfl, hT, hnd, hi, fl, fa, cl, q1, q2, q3⟩ := h
  refine ⟨_, (pss_cons (ps_expr (pe_meth (v_ 0) c_Table__check_row.cl c_Table__check_row.me c_Table__check_row.G (hr.mono (by first | decide | omega)) c_Table__check_row.b .nil (passes_call (takes_of rfl rfl rfl rfl) (fun _ _ _ _ h => h)) (pa_cons (v_ 1) pa_nil))) (pss_cons (ps_if (pt_c (notInK K) (v_ 2) (e_f K (v_ 0))) (pss_one (ps_raise rfl (takes_of rfl rfl rfl rfl) (pmk_oex c_UnknownField.oex c_UnknownField.iC c_UnknownField.tI c_UnknownField.G (hr.mono (by first | decide | omega)) c_UnknownField.b .nil pass0 rfl c_UnknownField.m (pa_cons (v_ 2) pa_nil)))) pss_nil) (pss_cons (ps_set (i := 4) sc_Table_write.nd rfl (.inl rfl) (e_x K (e_x K (e_f K (v_ 0)) (v_ 1)) pe_int)) (pss_one (ps_asg (v_ 3) (pg_sub (v_ 4) (v_ 2) (set_dict (hu_of hr)))))))), ?_⟩
  obtain ⟨C, dx, t, u, vs, kvs, hC, ha, ht, hu, hL, hrw, hF, hk⟩ := id hT
  cases hC.symm.trans T.n_Table
  refine ⟨a, dx, _, rfl, ha, rfl, a, L, F, ks, fs, rows, i, rfl, hT, hi, ?_⟩
  by_cases c : 0 ≤ i ∧ i < (rows.length : Int)
  rotate_left
  · rw [if_neg c]
    exact q2 c
  rw [if_pos c]
  refine ⟨a, a_Table, dx, _, _, rfl, ha, T.cl_Table, T.na_Table_field_names, rfl, _, .inr (SqT.of hu), rfl, flat_strs, ?_⟩
  refine ite2 (fun m => ?_) (fun m => ?_)
  · have m : f ∉ fs := by
      have m : (!inV (.str f) (fs.map V.str)) = true := m
      rw [inV_str] at m
      simpa using m
    refine mk_spE (by show 1 ≤ 1000; decide) ⟨f, rfl, fl, fa⟩ (fun e ne => ?_)
    exact q3 c m a_UnknownField e _ T.n_UnknownField (same_new ne) ne upd_same
  have m : f ∈ fs := by
    have m : ¬ (!inV (.str f) (fs.map V.str)) = true := m
    rw [inV_str] at m
    simpa using m
  obtain ⟨j, rfl⟩ : ∃ j : Nat, i = (j : Int) := ⟨i.toNat, by omega⟩
  obtain ⟨x, ex⟩ : ∃ x, rows[j]? = some x := ⟨_, List.getElem?_eq_getElem (by omega)⟩
  obtain ⟨v, ev, tt, rfl, h1, h2, h3⟩ := hrw.to ex
  have iv : atI vs (j : Int) = some (.ref tt) := atI_nat ev
  have i1 : atI [V.ref x.p, .ref x.c] (1 : Int) = some (.ref x.c) := rfl
  refine ⟨a, a_Table, dx, _, _, rfl, ha, T.cl_Table, T.na_Table__rows, rfl, _, .inl (SqL.of hL), _, iv, _, .inr (SqT.of h1), _, i1, ?_⟩
  have xm := List.mem_of_getElem? ex
  refine ⟨x.c, _, rfl, DPut.k (k := kS f) h3 (line_lt (by have := cl x xm; omega)), ?_⟩
  have b : Bt x.c H (upd H x.c (.dK (putK x.r.2 (kS f) (.int n)))) := Bt.st
  have pc := hnd.1 x xm
  have im : ∀ {b o}, H b = some o → (∀ kv, o ≠ .dK kv) → b ≠ x.c := fun hb m e => by
    rw [e, h3] at hb
    exact m _ (Option.some.inj hb).symm
  refine q1 j x rfl ex m _ b ⟨a_Table, dx, t, u, vs, kvs, T.n_Table, b _ _ (im ha (fun _ z => nomatch z)) ha, b _ _ (im ht (fun _ z => nomatch z)) ht, b _ _ (im hu (fun _ z => nomatch z)) hu, b _ _ (im hL (fun _ z => nomatch z)) hL, ?_, b _ _ (im hF (fun _ z => nomatch z)) hF, fun k v => ?_, ?_⟩
  · refine all2_set hrw ex ev ⟨tt, rfl, b _ _ (im h1 (fun _ z => nomatch z)) h1, b _ _ pc h2, upd_same⟩ fun k w y ne e1 e2 ⟨t', e, g1, g2, g3⟩ => ?_
    obtain ⟨n1, n2, n3, n4⟩ := hnd.at e2 ex ne
    exact ⟨t', e, b _ _ (im g1 (fun _ z => nomatch z)) g1, b _ _ n2 g2, b _ _ n4 g3⟩
  · rw [hk.1]
    congr 1
    refine first_congr ?_
    rw [List.map_map, List.map_map, List.map_set]
    show rows.map _ = (rows.map _).set j x.r.1
    exact (set_self (by rw [List.getElem?_map, ex]; rfl)).symm
  · rw [List.length_map, List.length_set]
    have := hk.2
    rwa [List.length_map] at this
end
section
variable {P : Program} {w : World} {K : PySem.W.Frag} {mg : Str → Option Value} {base : Heap}
variable {a_BadRow a_ElseputError a_NoRow a_Table a_Taken a_UnknownField a_UnknownKey a_UnknownName : Addr}
def sp_Table_rows (K : PySem.W.Frag) : Sp := fun vs H Q _ => ∃ (a L F : Addr) (ks fs : List Str) (rows : List Tr), vs = [.ref a] ∧ TbAt K H a L F ks fs rows ∧ rows.length ≤ 1000 ∧ ∀ (H' : Hp) (l : Addr) (ws : List V) (rs : List Tr), Same H H' → H l = none → H' l = some (.lst ws) → All2 (RowAt H') ws rs → rs.map (·.r) = rows.map (·.r) → (∀ x ∈ rs, H x.p = none ∧ H x.c = none ∧ x.p ≠ l ∧ x.c ≠ l) → Nd rs → Q (.ref l) H'
theorem len_Table_rows {vs : List V} {H : Hp} {Q : VK} {E : XK} (h : sp_Table_rows K vs H Q E) : vs.length = 1 := by
  obtain ⟨_, _, _, _, _, _, rfl, _⟩ := h
  rfl
theorem ok_Table_rows {f : Addr} {fd : FuncData} (F : Fun K "rows" "Table.rows" s_Table_rows f fd) (T : Gs K mg a_BadRow a_ElseputError a_NoRow a_Table a_Taken a_UnknownField a_UnknownKey a_UnknownName) : FnOk P w K mg base CX0 1 f fd ["self"] (sp_Table_rows K) := by
  refine F.ok sc_Table_rows (fun vs H Q E h => len_Table_rows h) (fun cdv A outer s H vs Q E hr h => ?_)
  obtain ⟨a, L, F, ks, fs, rows, rfl, hT, r1000, q⟩ := h
  refine ⟨_, (pss_one (ps_ret (pe_lc (own := [("places", 1), ("content", 2)]) (g := gTup K 2 (gCons (gName 1) (gCons (gName 2) gNil))) (by rfl) sc_Table_rows.nd (pi_list (e_f K (v_ 0))) (blkOk_by (N := ["self", "places", "content"]) (sc := defScope s_Table_rows) (by decide +kernel)) (fun _ _ _ _ _ => pg_tupK K (by rfl) (pgs_cons (pg_name (i := 1) sc_Table_rows.nd rfl (Or.inl rfl)) (pgs_cons (pg_name (i := 2) sc_Table_rows.nd rfl (Or.inl rfl)) pgs_nil))) (fun _ _ _ _ _ => pts_nil) (fun _ _ _ _ _ => (pe_tup (pa_cons (pe_callTy call_dictD (by rfl) T.z_dict (by decide +kernel) (pa_cons (v_ 1) pa_nil)) (pa_cons (pe_callTy call_dictD (by rfl) T.z_dict (by decide +kernel) (pa_cons (v_ 2) pa_nil)) pa_nil))))))), ?_⟩
  obtain ⟨C, dx, t, u, vs, kvs, hC, ha, ht, hu, hL, hrw, _⟩ := id hT
  cases hC.symm.trans T.n_Table
  have rl := hrw.len
  refine ⟨a, a_Table, dx, _, _, rfl, ha, T.cl_Table, T.na_Table__rows, rfl, L, rfl, ⟨_, SqL.of hL⟩, fun D nD => ?_⟩
  refine lc_it (walk_list (xs := vs)) (fun i H' => Same H H' ∧ ∃ ws rs, H' D = some (.lst ws) ∧ All2 (RowAt H') ws rs ∧ rs.map (·.r) = (rows.take i).map (·.r) ∧ (∀ x ∈ rs, H x.p = none ∧ H x.c = none ∧ x.p ≠ D ∧ x.c ≠ D) ∧ Nd rs) ⟨same_new nD, [], [], upd_same, .nil, rfl, (fun _ h => nomatch h), Nd.nil⟩ (fun _ _ _ h => SqL.of (h.1 _ _ hL)) ?_ ?_
  · rintro i x H0 H1 hi ⟨s1, ws, rs, hD, hws, er, fr, nd⟩ ⟨rfl, hv⟩
    have hv : vs[i]? = some x := by
      first | exact hv | exact hv _ (SqL.of (s1 _ _ hL))
    obtain ⟨y, ey, tt, rfl, h1, h2, h3⟩ := hrw.at hv
    refine ⟨tt, _, rfl, SqT.of (s1 _ _ h1), rfl, _, _, rfl, _, _, rfl, rfl, rfl, ?_⟩
    refine ⟨y.p, _, rfl, .inl (s1 _ _ h2), fun p np => ?_⟩
    have s2 := same_new (o := .dK y.r.1) np
    have hp := upd_same (H := H1) (a := p) (o := .dK y.r.1)
    have s12 := s1.trans s2
    have hD2 := s2 _ _ hD
    have hws2 := hws.imp fun v x h => RowAt.same h s2
    have fp : H p = none := Same.free s1 np
    have pD : p ≠ D := (ne_of_none hD np).symm
    have pr : ∀ x ∈ rs, x.p ≠ p ∧ x.c ≠ p := fun x hx => by
      obtain ⟨j, hj, ej⟩ := List.getElem_of_mem hx
      obtain ⟨v, _, _, _, _, g2, g3⟩ := hws.to (i := j) (a := x) (by rw [List.getElem?_eq_getElem hj, ej])
      exact ⟨ne_of_none g2 np, ne_of_none g3 np⟩
    generalize upd H1 p (.dK y.r.1) = H2 at hp s12 hD2 hws2 ⊢
    refine ⟨y.c, _, rfl, .inl (s12 _ _ h3), fun c nc => ?_⟩
    have s3 := same_new (o := .dK y.r.2) nc
    have hc := upd_same (H := H2) (a := c) (o := .dK y.r.2)
    have s13 := s12.trans s3
    have hD3 := s3 _ _ hD2
    have hp3 := s3 _ _ hp
    have hws3 := hws2.imp fun v x h => RowAt.same h s3
    have fc : H c = none := Same.free s12 nc
    have cD : c ≠ D := (ne_of_none hD2 nc).symm
    have pc : p ≠ c := ne_of_none hp nc
    have cr : ∀ x ∈ rs, x.p ≠ c ∧ x.c ≠ c := fun x hx => by
      obtain ⟨j, hj, ej⟩ := List.getElem_of_mem hx
      obtain ⟨v, _, _, _, _, g2, g3⟩ := hws2.to (i := j) (a := x) (by rw [List.getElem?_eq_getElem hj, ej])
      exact ⟨ne_of_none g2 nc, ne_of_none g3 nc⟩
    generalize upd H2 c (.dK y.r.2) = H3 at hc s13 hD3 hp3 hws3 ⊢
    refine ⟨(by show 2 ≤ sizeLine; decide), fun t2 n2 => ?_⟩
    have s4 := same_new (o := .tup [.ref p, .ref c]) n2
    have ht2 := upd_same (H := H3) (a := t2) (o := .tup [.ref p, .ref c])
    have s14 := s13.trans s4
    have hD4 := s4 _ _ hD3
    have hp4 := s4 _ _ hp3
    have hc4 := s4 _ _ hc
    have hws4 := hws3.imp fun v x h => RowAt.same h s4
    have tD : t2 ≠ D := (ne_of_none hD3 n2).symm
    generalize upd H3 t2 (.tup [.ref p, .ref c]) = H4 at ht2 s14 hD4 hp4 hc4 hws4 ⊢
    have wl := hws.len
    have rl2 : rs.length = min i rows.length := by
      have := congrArg List.length er
      rwa [List.length_map, List.length_map, List.length_take] at this
    have kp : ∀ {v : V} {x : Tr}, RowAt H4 v x → x.p ≠ D → x.c ≠ D → RowAt (upd H4 D (.lst (ws ++ [.ref t2]))) v x := fun {v x} h n1 n2 => by
      obtain ⟨t, e, g1, g2, g3⟩ := h
      refine ⟨t, e, ?_, by rw [upd_ne n1]; exact g2, by rw [upd_ne n2]; exact g3⟩
      rw [upd_ne (ne_of g1 hD4 (by intro z; cases z))]
      exact g1
    refine ⟨ws, hD4, line_lt (by omega), fun b o hb => by rw [upd_ne (ne_of_none hb nD)]; exact s14 _ _ hb, ws ++ [.ref t2], rs ++ [⟨p, c, y.r⟩], upd_same, ?_, ?_, ?_, ?_⟩
    · have go : ∀ {ws : List V} {rs : List Tr}, All2 (RowAt H4) ws rs → (∀ x ∈ rs, x.p ≠ D ∧ x.c ≠ D) → All2 (RowAt (upd H4 D (.lst (ws ++ [.ref t2])))) ws rs → True := fun _ _ _ => trivial
      have go2 : ∀ {us : List V} {qs : List Tr}, All2 (RowAt H4) us qs → (∀ x ∈ qs, x.p ≠ D ∧ x.c ≠ D) → All2 (RowAt (upd H4 D (.lst (ws ++ [.ref t2])))) us qs := fun h => by
        induction h with
        | nil => intro _; exact .nil
        | cons a b ih => intro n; exact .cons (kp a (n _ List.mem_cons_self).1 (n _ List.mem_cons_self).2) (ih fun x hx => n x (List.mem_cons_of_mem _ hx))
      exact (go2 hws4 fun x hx => (fr x hx).2.2).snoc (kp ⟨t2, rfl, ht2, hp4, hc4⟩ pD cD)
    · rw [take_snoc ey, List.map_append, List.map_append, er]
      rfl
    · intro x hx
      rcases List.mem_append.mp hx with h | h
      · exact fr x h
      · rw [List.mem_singleton.mp h]
        exact ⟨fp, fc, pD, cD⟩
    · exact nd.snoc pc fun x hx => ⟨(pr x hx).1, (cr x hx).1, (pr x hx).2, (cr x hx).2⟩
  rintro H1 ⟨s1, ws, rs, hD, hws, er, fr, nd⟩
  rw [rl, List.take_length] at er
  exact q H1 D ws rs s1 nD hD hws er fr nd
end
section
variable {P : Program} {w : World} {K : PySem.W.Frag} {mg : Str → Option Value} {base : Heap}
variable {a_BadRow a_ElseputError a_NoRow a_Table a_Taken a_UnknownField a_UnknownKey a_UnknownName : Addr}
theorem same_mk {H : Hp} {x C dx : Addr} {fs : List (Str × V)} (nx : H x = none) (nd : H dx = none) : Same H (upd (upd H dx (.own x)) x (.ins C dx fs)) := fun b o hb => by
  rw [upd_ne (ne_of_none hb nx), upd_ne (ne_of_none hb nd)]
  exact hb
structure TbOk (ks fs : List Str) (R : List TRow) : Prop where
  knd : ks.Nodup
  k4 : ks.length ≤ 4
  fnd : fs.Nodup
  f4 : fs.length ≤ 4
  ro : ∀ r ∈ R, RowOk ks fs r
  n1000 : R.length ≤ 100
theorem RowOk.new {ks fs : List Str} {r : TRow} (h : RowOk ks fs r) : ∃ zs, r.1.map Prod.fst = zs.map kS ∧ zs.Sublist ks ∧ newOk ks fs zs fs = true := by
  obtain ⟨zs, e, s, ne⟩ := h.pk
  refine ⟨zs, e, s, ?_⟩
  unfold newOk
  rw [decide_eq_true ne, List.all_eq_true.mpr fun z hz => decide_eq_true (s.subset hz), decide_eq_true rfl, List.all_eq_true.mpr fun z hz => decide_eq_true hz]
  rfl
theorem RowOk.len {ks fs : List Str} {r : TRow} (h : RowOk ks fs r) : r.1.length ≤ ks.length ∧ r.2.length = fs.length := by
  obtain ⟨zs, e, s, _⟩ := h.pk
  have h1 := congrArg List.length e
  have h2 := congrArg List.length h.ck
  rw [List.length_map, List.length_map] at h1 h2
  exact ⟨by rw [h1]; exact s.length_le, h2⟩
theorem RowOk.self {ks fs : List Str} {r : TRow} (h : RowOk ks fs r) (kn : ks.Nodup) (fn : fs.Nodup) : (ordK ks r.1, ordK fs r.2) = r := by
  obtain ⟨zs, e, s, _⟩ := h.pk
  rw [ord_self s kn e, ord_self (List.Sublist.refl fs) fn h.ck]
def sp_Table_twin (K : PySem.W.Frag) : Sp := fun vs H Q _ => ∃ (a L F : Addr) (ks fs : List Str) (rows : List Tr), vs = [.ref a] ∧ TbAt K H a L F ks fs rows ∧ TbOk ks fs (rows.map (·.r)) ∧ ∀ (H' : Hp) (a' L' F' : Addr) (rows' : List Tr), Same H H' → H a' = none → H L' = none → H F' = none → (∀ x ∈ rows', H x.p = none ∧ H x.c = none) → Nd rows' → rows'.map (·.r) = rows.map (·.r) → TbAt K H' a' L' F' ks fs rows' → Q (.ref a') H'
theorem len_Table_twin {vs : List V} {H : Hp} {Q : VK} {E : XK} (h : sp_Table_twin K vs H Q E) : vs.length = 1 := by
  obtain ⟨_, _, _, _, _, _, rfl, _⟩ := h
  rfl
theorem ok_Table_twin {f : Addr} {fd : FuncData} {f_Table___init__ : Addr} {fd_Table___init__ : FuncData} {f_Table_rows : Addr} {fd_Table_rows : FuncData} {f_Table_enter : Addr} {fd_Table_enter : FuncData} (F : Fun K "twin" "Table.twin" s_Table_twin f fd) (T : Gs K mg a_BadRow a_ElseputError a_NoRow a_Table a_Taken a_UnknownField a_UnknownKey a_UnknownName) (c_Table___init__ : CalI P w K mg base CX0 1 "Table" a_Table f_Table___init__ fd_Table___init__ ["self", "key_names", "field_names"] (sp_Table___init__ K)) (c_Table_rows : CalM P w K mg base CX0 1 a_Table "rows" f_Table_rows fd_Table_rows ["self"] (sp_Table_rows K)) (c_Table_enter : CalM P w K mg base (L2.CX P w) 4 a_Table "enter" f_Table_enter fd_Table_enter ["self", "places", "content"] (sp_Table_enter K)) : FnOk P w K mg base CX0 5 f fd ["self"] (sp_Table_twin K) := by
  refine F.ok sc_Table_twin (fun vs H Q E h => len_Table_twin h) (fun cdv A outer s H vs Q E hr h => ?_)
  obtain ⟨a, L, F, ks, fs, rows, rfl, hT, ok, q⟩ := h
  refine ⟨_, (pss_cons (ps_set (i := 1) sc_Table_twin.nd rfl (.inl rfl) (pe_make c_Table___init__.mkc c_Table___init__.G (hr.mono (by first | decide | omega)) rfl c_Table___init__.m c_Table___init__.b .nil pass0 (pa_cons (e_f K (v_ 0)) (pa_cons (e_f K (v_ 0)) pa_nil)))) (pss_cons (ps_for PassesOwn.never rfl (pi_list (pe_meth0 (v_ 0) c_Table_rows.cl c_Table_rows.me c_Table_rows.G (hr.mono (by first | decide | omega)) c_Table_rows.b .nil pass0)) (pg_tup (by rfl) (pgs_cons (pg_name (i := 2) sc_Table_twin.nd rfl (.inl rfl)) (pgs_cons (pg_name (i := 3) sc_Table_twin.nd rfl (.inl rfl)) pgs_nil))) (pss_one (ps_expr (pe_meth (v_ 1) c_Table_enter.cl c_Table_enter.me c_Table_enter.G (hr.mono (by first | decide | omega)) c_Table_enter.b .nil passL (pa_cons (v_ 2) (pa_cons (v_ 3) pa_nil)))))) (pss_one (ps_ret (v_ 1))))), ?_⟩
  obtain ⟨C, dx, t, u, vs, kvs, hC, ha, ht, hu, hL, hrw, _⟩ := id hT
  cases hC.symm.trans T.n_Table
  have rl := hrw.len
  have n1000 := ok.n1000
  rw [List.length_map] at n1000
  refine ⟨a, a_Table, dx, _, _, rfl, ha, T.cl_Table, T.na_Table_key_names, rfl, a, a_Table, dx, _, _, rfl, ha, T.cl_Table, T.na_Table_field_names, rfl, ?_⟩
  intro x dy nx ny ne
  have sm : Same H (upd (upd H dy (.own x)) x (.ins a_Table dy [])) := same_mk nx ny
  refine ⟨x, t, u, a_Table, dy, ks, fs, rfl, T.n_Table, upd_same, .inr (sm _ _ ht), .inr (sm _ _ hu), fun H1 L' F' b1 nL nF LF hT1 => ⟨rfl, ?_⟩⟩
  have s1 : Same H H1 := fun c o hc => b1 _ _ (ne_of_none hc nx) (sm _ _ hc)
  have L0 : H L' = none := free_new (free_new nL)
  have F0 : H F' = none := free_new (free_new nF)
  obtain ⟨Cz, dz, _, _, v0, kv0, hCz, hx1, _, _, hL1, _, hF1, _⟩ := id hT1
  cases hCz.symm.trans T.n_Table
  refine ⟨a, dx, _, rfl, s1 _ _ ha, rfl, a, L, F, ks, fs, rows, rfl, hT.same s1, by omega, fun H2 l ws rs s2 nl hl hws er fr nd => ?_⟩
  have s12 := s1.trans s2
  have lL : l ≠ L' := (ne_of_none hL1 nl).symm
  have lF : l ≠ F' := (ne_of_none hF1 nl).symm
  refine ⟨l, rfl, ⟨_, SqL.of hl⟩, ?_⟩
  have wl := hws.len
  have rsl : rs.length = rows.length := by
    have := congrArg List.length er
    rwa [List.length_map, List.length_map] at this
  refine for_list (K := K) (a := l) (xs := ws) (fun i σ' H' => (∃ y2 y3, σ' = [some (.ref a), some (.ref x), y2, y3]) ∧ Fr (fun b => b = L' ∨ b = F') H2 H' ∧ ∃ rows', TbAt K H' x L' F' ks fs rows' ∧ rows'.map (·.r) = (rows.take i).map (·.r) ∧ (∀ y ∈ rows', H y.p = none ∧ H y.c = none) ∧ Nd rows') ⟨⟨_, _, rfl⟩, (fun _ _ _ h => h), [], hT1.same s2, rfl, (fun _ h => nomatch h), Nd.nil⟩ (fun _ _ _ _ h => SqL.of (h.2.1 _ _ (fun n => n.elim lL lF) hl)) ?_ ?_
  · rintro i v σ' H3 hi ⟨⟨y2, y3, rfl⟩, f3, rows', hT3, er3, fr3, nd3⟩
    obtain ⟨y, ey, tt, rfl, h1, h2, h3⟩ := hws.at hi
    have mutO : ∀ {b o}, H2 b = some o → (∀ l, o ≠ .lst l) → (∀ l, o ≠ .dT l) → H3 b = some o := fun {b o} hb m1 m2 => f3 _ _ (fun n => by
      rcases n with n | n
      · rw [n, s2 _ _ hL1] at hb; exact m1 _ (Option.some.inj hb).symm
      · rw [n, s2 _ _ hF1] at hb; exact m2 _ (Option.some.inj hb).symm) hb
    have g1 := mutO h1 (fun _ z => nomatch z) (fun _ z => nomatch z)
    have g2 := mutO h2 (fun _ z => nomatch z) (fun _ z => nomatch z)
    have g3 := mutO h3 (fun _ z => nomatch z) (fun _ z => nomatch z)
    have gx := mutO (s2 _ _ hx1) (fun _ z => nomatch z) (fun _ z => nomatch z)
    refine ⟨tt, _, rfl, SqT.of g1, rfl, _, _, rfl, _, _, rfl, rfl, ?_⟩
    have yo : ∃ r0, rows[i]? = some r0 ∧ r0.r = y.r := by
      have e1 : (rs.map (·.r))[i]? = some y.r := by rw [List.getElem?_map, ey]; rfl
      rw [er, List.getElem?_map] at e1
      obtain ⟨r0, e0, e2⟩ := Option.map_eq_some_iff.mp e1
      exact ⟨r0, e0, e2⟩
    obtain ⟨r0, e0, er0⟩ := yo
    have ro : RowOk ks fs y.r := er0 ▸ ok.ro _ (List.mem_map.mpr ⟨r0, List.mem_of_getElem? e0, rfl⟩)
    obtain ⟨zs, ez, zsub, no⟩ := ro.new
    obtain ⟨l1, l2⟩ := ro.len
    have il := (List.getElem?_eq_some_iff.mp e0).1
    have k4 := ok.k4
    have f4 := ok.f4
    have rl3 : rows'.length = i := by
      have := congrArg List.length er3
      rw [List.length_map, List.length_map, List.length_take] at this
      omega
    refine ⟨x, dz, _, rfl, gx, rfl, x, L', F', y.p, y.c, ks, fs, zs, fs, rows', y.r.1, y.r.2, rfl, hT3, ⟨g2, g3, ez, ro.ck, ro.pi, by omega, by omega, ok.fnd, ok.knd, k4, ok.fnd, by omega, by omega⟩, ?_⟩
    rw [if_pos no]
    intro H4 z f4' n1 n2 ne' ez' hT4
    rw [ro.self ok.knd ok.fnd] at ez'
    have fre : ∀ {b}, H3 b = none → H b = none := fun {b} hb => by
      cases e : H b with
      | none => rfl
      | some o =>
        have := f3 _ _ (fun n => by
          rcases n with n | n
          · rw [n, L0] at e; cases e
          · rw [n, F0] at e; cases e) (s12 _ _ e)
        rw [hb] at this
        cases this
    refine ⟨⟨_, _, rfl⟩, Fr.trans f3 f4', rows' ++ [z], hT4, ?_, fun w hw => ?_, ?_⟩
    · rw [take_snoc e0, List.map_append, List.map_append, er3]
      show _ ++ [z.r] = _ ++ [r0.r]
      rw [ez', er0]
    · rcases List.mem_append.mp hw with h | h
      · exact fr3 w h
      · rw [List.mem_singleton.mp h]; exact ⟨fre n1, fre n2⟩
    · refine nd3.snoc ne' fun w hw => ?_
      obtain ⟨_, _, _, _, v3, _, _, _, _, _, _, hr3, _⟩ := hT3
      obtain ⟨j, hj, ej⟩ := List.getElem_of_mem hw
      obtain ⟨v, _, _, _, _, w2, w3⟩ := hr3.to (i := j) (a := w) (by rw [List.getElem?_eq_getElem hj, ej])
      exact ⟨ne_of_none w2 n1, ne_of_none w2 n2, ne_of_none w3 n1, ne_of_none w3 n2⟩
  rintro σ' H3 ⟨⟨y2, y3, rfl⟩, f3, rows', hT3, er3, fr3, nd3⟩
  rw [wl, rsl, List.take_length] at er3
  refine q H3 x L' F' rows' (fun c o hc => f3 _ _ (fun n => by
    rcases n with n | n
    · rw [n, L0] at hc; cases hc
    · rw [n, F0] at hc; cases hc) (s12 _ _ hc)) nx L0 F0 fr3 nd3 er3 hT3
end
section
variable {P : Program} {w : World} {K : PySem.W.Frag} {mg : Str → Option Value} {base : Heap}
variable {a_BadRow a_ElseputError a_NoRow a_Table a_Taken a_UnknownField a_UnknownKey a_UnknownName : Addr}
def sp__law_in_order (K : PySem.W.Frag) : Sp := fun vs H Q _ => ∃ (l d : Addr) (ns : List Str) (src : Kvs), vs = [.ref l, .ref d] ∧ H l = some (.lst (ns.map V.str)) ∧ H d = some (.dK src) ∧ ns.Nodup ∧ ns.length ≤ 50 ∧ ∀ (H' : Hp) (r : Addr), Same H H' → H r = none → H' r = some (.dK (ordK ns src)) → Q (.ref r) H'
theorem len__law_in_order {vs : List V} {H : Hp} {Q : VK} {E : XK} (h : sp__law_in_order K vs H Q E) : vs.length = 2 := by
  obtain ⟨_, _, _, _, rfl, _⟩ := h
  rfl
theorem ok__law_in_order {f : Addr} {fd : FuncData} (F : Fun K "_law_in_order" "_law_in_order" s__law_in_order f fd) (T : Gs K mg a_BadRow a_ElseputError a_NoRow a_Table a_Taken a_UnknownField a_UnknownKey a_UnknownName) : FnOk P w K mg base CX0 1 f fd ["_law_names_here", "_law_source"] (sp__law_in_order K) := by
  refine F.ok sc__law_in_order (fun vs H Q E h => len__law_in_order h) (fun cdv A outer s H vs Q E hr h => ?_)
  obtain ⟨l, d, ns, src, rfl, hl, hd, nd, n50, q⟩ := h
  refine ⟨_, (pss_cons (ps_set (i := 2) sc__law_in_order.nd rfl (.inl rfl) pe_dnewK) (pss_cons (ps_for PassesOwn.never rfl (pi_list (v_ 0)) (pg_name (i := 3) sc__law_in_order.nd rfl (.inl rfl)) (pss_one (ps_if (pt_cmp (pc_din (hu_of hr) (v_ 3) (v_ 1))) (pss_one (ps_asg (pe_dget (hu_of hr) (v_ 1) (v_ 3) (fun _ _ => rfl)) (pg_sub (v_ 2) (v_ 3) (set_dict (hu_of hr))))) pss_nil))) (pss_one (ps_ret (v_ 2))))), ?_⟩
  intro D nD
  have s1 := same_new (o := .dK []) nD
  refine ⟨l, rfl, ⟨_, SqL.of (s1 _ _ hl)⟩, ?_⟩
  refine for_list (K := K) (a := l) (xs := ns.map V.str) (fun i σ' H' => (∃ y, σ' = [some (.ref l), some (.ref d), some (.ref D), y]) ∧ Same H H' ∧ H' D = some (.dK (ordK (ns.take i) src))) ⟨⟨_, rfl⟩, s1, upd_same⟩ (fun _ _ _ _ h => SqL.of (h.2.1 _ _ hl)) ?_ ?_
  · rintro i x σ' H1 hx ⟨⟨y, rfl⟩, s2, hD⟩
    rw [List.getElem?_map] at hx
    obtain ⟨z, ez, rfl⟩ := Option.map_eq_some_iff.mp hx
    have tk := take_snoc ez
    have ndz : (ns.take i ++ [z]).Nodup := by rw [← tk]; exact nd.sublist (List.take_sublist _ _)
    refine ⟨d, _, rfl, DGet.k (k := kS z) (s2 _ _ hd), _, rfl, ?_⟩
    cases e : valV src (kS z) with
    | none =>
      refine ⟨⟨_, rfl⟩, s2, ?_⟩
      rw [hD, tk, ord_snoc, e]
    | some v =>
      refine ⟨d, v, rfl, by rw [← e]; exact DGet.k (k := kS z) (s2 _ _ hd), ?_⟩
      refine ⟨D, _, rfl, DPut.k (k := kS z) hD (line_lt (by have := ord_len (ks := ns.take i) (l := src); rw [List.length_take] at this; omega)), ⟨_, rfl⟩, fun b o hb => by rw [upd_ne (ne_of_none hb nD)]; exact s2 _ _ hb, ?_⟩
      rw [upd_same, ord_put ndz e, tk]
  rintro σ' H1 ⟨⟨y, rfl⟩, s2, hD⟩
  rw [List.length_map, List.take_length] at hD
  exact q _ D s2 nD hD
theorem hits_some {k : Str} {v : Int} {r : TRow} : hits k v r = true ↔ valV r.1 (kS k) = some (.int v) := by
  unfold hits
  constructor
  · intro h
    split at h
    · rename_i j e
      rw [e, of_decide_eq_true h]
    · cases h
  · intro h
    rw [h]
    exact decide_eq_true rfl
theorem first_at {R : List TRow} {k : Str} {v : Int} {i : Nat} {r : TRow} (no : ∀ x ∈ R.take i, hits k v x = false) (e : R[i]? = some r) (h : hits k v r = true) : firstAt R k v = some i := by
  unfold firstAt
  obtain ⟨hi, ei⟩ := List.getElem?_eq_some_iff.mp e
  refine List.findIdx?_eq_some_iff_getElem.mpr ⟨hi, by rw [ei]; exact h, fun j hj => ?_⟩
  have := no (R[j]'(by omega)) (List.mem_of_getElem? (i := j) (by rw [List.getElem?_take, if_pos hj]; exact List.getElem?_eq_getElem _))
  rw [this]
  decide
theorem first_none {R : List TRow} {k : Str} {v : Int} (no : ∀ x ∈ R, hits k v x = false) : firstAt R k v = none := by
  unfold firstAt
  exact List.findIdx?_eq_none_iff.mpr no
def sp__law_found (K : PySem.W.Frag) : Sp := fun vs H Q _ => ∃ (R : Addr) (ws : List V) (rs : List Tr) (k : Str) (v : Int), vs = [.ref R, .str k, .int v] ∧ H R = some (.lst ws) ∧ All2 (RowAt H) ws rs ∧ (∀ x ∈ rs, Ints x.r.1) ∧ rs.length ≤ 1000 ∧ ∀ H', Same H H' → Q (rowV (firstAt (rs.map (·.r)) k v)) H'
theorem len__law_found {vs : List V} {H : Hp} {Q : VK} {E : XK} (h : sp__law_found K vs H Q E) : vs.length = 3 := by
  obtain ⟨_, _, _, _, _, rfl, _⟩ := h
  rfl
theorem ok__law_found {f : Addr} {fd : FuncData} (F : Fun K "_law_found" "_law_found" s__law_found f fd) (T : Gs K mg a_BadRow a_ElseputError a_NoRow a_Table a_Taken a_UnknownField a_UnknownKey a_UnknownName) : FnOk P w K mg base CX0 1 f fd ["_law_rows", "_law_key", "_law_value"] (sp__law_found K) := by
  refine F.ok sc__law_found (fun vs H Q E h => len__law_found h) (fun cdv A outer s H vs Q E hr h => ?_)
  obtain ⟨R, ws, rs, k, v, rfl, hR, hws, hin, l1000, q⟩ := h
  refine ⟨_, (pss_cons (ps_for PassesOwn.never rfl (pi_range1 rfl T.z_range (pa_cons (pe_callB (lenK K) (by rfl) T.z_len PySem.boot_len (pa_cons (v_ 0) pa_nil)) pa_nil)) (pg_name (i := 3) sc__law_found.nd rfl (.inl rfl)) (pss_one (ps_if (PW.pt (pw_and (pt_cmp (pc_din (hu_of hr) (v_ 1) (e_x K (e_x K (v_ 0) (v_ 3)) pe_int))) (pw_and1 (pt_c (eqK K hr.units) (pe_dget (hu_of hr) (e_x K (e_x K (v_ 0) (v_ 3)) pe_int) (v_ 1) (fun _ _ => rfl)) (v_ 2))))) (pss_one (ps_ret (v_ 3))) pss_nil))) (pss_one (ps_ret pe_non))), ?_⟩
  have wl := hws.len
  refine .inl ⟨_, .inl (SqL.of hR), _, rfl, by omega, by omega, ?_⟩
  refine for_range (lo := 0) (n := ws.length) (fun i σ' H' => (∃ y, σ' = [some (.ref R), some (.str k), some (.int v), y]) ∧ H' = H ∧ ∀ x ∈ (rs.map (·.r)).take i, hits k v x = false) ⟨⟨_, rfl⟩, rfl, (fun _ h => nomatch h)⟩ ?_ ?_
  · rintro i σ' H' hi ⟨⟨y, rfl⟩, rfl, no⟩
    obtain ⟨x, ex⟩ : ∃ x, rs[i]? = some x := ⟨_, List.getElem?_eq_getElem (by omega)⟩
    obtain ⟨w, ew, tt, rfl, h1, h2, h3⟩ := hws.to ex
    have iw : atI ws ((0 : Int) + (i : Int)) = some (.ref tt) := by rw [Int.zero_add]; exact atI_nat ew
    have i0 : atI [V.ref x.p, .ref x.c] (0 : Int) = some (.ref x.p) := rfl
    have er : (rs.map (·.r))[i]? = some x.r := by rw [List.getElem?_map, ex]; rfl
    have go : hits k v x.r = false → ∀ y ∈ (rs.map (·.r)).take (i + 1), hits k v y = false := fun h y hy => by
      rw [take_snoc er] at hy
      rcases List.mem_append.mp hy with h1 | h1
      · exact no y h1
      · rw [List.mem_singleton.mp h1]; exact h
    refine ⟨_, .inl (SqL.of hR), _, iw, _, .inr (SqT.of h1), _, i0, x.p, _, rfl, DGet.k (k := kS k) h2, _, rfl, ?_⟩
    cases e : valV x.r.1 (kS k) with
    | none =>
      refine ⟨⟨_, rfl⟩, rfl, go ?_⟩
      cases hh : hits k v x.r with
      | false => rfl
      | true => rw [hits_some.mp hh] at e; cases e
    | some w =>
      obtain ⟨j, rfl⟩ := hin x (List.mem_of_getElem? ex) _ (val_mem e)
      refine ⟨_, .inl (SqL.of hR), _, iw, _, .inr (SqT.of h1), _, i0, x.p, _, rfl, by rw [← e]; exact DGet.k (k := kS k) h2, ?_⟩
      refine ite2 (fun c => ?_) (fun c => ?_)
      · have c : j = v := of_decide_eq_true c
        subst c
        have y := q _ (Same.refl _)
        rw [first_at no er (hits_some.mpr e)] at y
        show Q (.int ((0 : Int) + (i : Int))) _
        rw [Int.zero_add]
        exact y
      · have c : ¬ j = v := fun h => c (decide_eq_true h)
        refine ⟨⟨_, rfl⟩, rfl, go ?_⟩
        cases hh : hits k v x.r with
        | false => rfl
        | true =>
          have := (hits_some.mp hh).symm.trans e
          cases this
          exact absurd rfl c
  · rintro σ' H' ⟨⟨y, rfl⟩, rfl, no⟩
    rw [List.take_of_length_le (by rw [List.length_map]; omega)] at no
    have y := q _ (Same.refl _)
    rw [first_none no] at y
    exact y
end
section
variable {P : Program} {w : World} {K : PySem.W.Frag} {mg : Str → Option Value} {base : Heap}
variable {a_BadRow a_ElseputError a_NoRow a_Table a_Taken a_UnknownField a_UnknownKey a_UnknownName : Addr}
def PutT (H' : Hp) (t : Addr) (ks fs zs ys : List Str) (R : List TRow) (pl : Kvs) (put : Bool) : Prop := if newOk ks fs zs ys = true then match (if put = true then takenAt R pl ks else none) with
    | some (k, j) => H' t = some (.tup [.str "taken", .str k, .int (j : Int)])
    | none => H' t = some (.tup [.str "let", .int (R.length : Int)])
  else H' t = some (.tup [.str "row"])
def sp__law_put_due (K : PySem.W.Frag) : Sp := fun vs H Q _ => ∃ (kk ff R p c : Addr) (ks fs zs ys : List Str) (ws : List V) (rs : List Tr) (pl ct : Kvs) (word : Str), vs = [.ref kk, .ref ff, .ref R, .str word, .ref p, .ref c] ∧ H kk = some (.lst (ks.map V.str)) ∧ H ff = some (.lst (fs.map V.str)) ∧ H R = some (.lst ws) ∧ All2 (RowAt H) ws rs ∧ (∀ x ∈ rs, Ints x.r.1) ∧ PutIn H p c ks fs zs ys rs.length pl ct ∧ ∀ (H' : Hp) (t : Addr), Same H H' → PutT H' t ks fs zs ys (rs.map (·.r)) pl (decide (word = "put")) → Q (.ref t) H'
theorem len__law_put_due {vs : List V} {H : Hp} {Q : VK} {E : XK} (h : sp__law_put_due K vs H Q E) : vs.length = 6 := by
  obtain ⟨_, _, _, _, _, _, _, _, _, _, _, _, _, _, rfl, _⟩ := h
  rfl
theorem new_due {ks fs zs ys : List Str} (yn : ys.Nodup) (fn : fs.Nodup) : newOk ks fs zs ys = ((decide (0 < zs.length) && decide (ys.length = fs.length)) && (zs.all (fun z => decide (z ∈ ks)) && fs.all fun z => decide (z ∈ ys))) := by
  unfold newOk
  have e1 : decide (zs ≠ []) = decide (0 < zs.length) := decide_eq_decide.mpr (List.length_pos_iff).symm
  rw [e1, Bool.eq_iff_iff]
  simp only [Bool.and_eq_true, decide_eq_true_iff, List.all_eq_true]
  constructor
  · rintro ⟨a, b, c, d⟩
    exact ⟨⟨a, c⟩, b, sub_eq yn fn c d⟩
  · rintro ⟨⟨a, c⟩, b, d⟩
    exact ⟨a, b, c, sub_eq fn yn c.symm d⟩
theorem ok__law_put_due {f : Addr} {fd : FuncData} (F : Fun K "_law_put_due" "_law_put_due" s__law_put_due f fd) (T : Gs K mg a_BadRow a_ElseputError a_NoRow a_Table a_Taken a_UnknownField a_UnknownKey a_UnknownName) : FnOk P w K mg base CX0 1 f fd ["_law_keys", "_law_fields", "_law_rows", "_law_word", "_law_places", "_law_content"] (sp__law_put_due K) := by
  refine F.ok sc__law_put_due (fun vs H Q E h => len__law_put_due h) (fun cdv A outer s H vs Q E hr h => ?_)
  obtain ⟨kk, ff, R, p, c, ks, fs, zs, ys, ws, rs, pl, ct, word, rfl, hkk, hff, hR, hws, hin, hi, q⟩ := h
  refine ⟨_, (Evl.pss_cut (ps_set (i := 6) sc__law_put_due.nd rfl (.inl rfl) (pe_andM (pe_c op_gtM (pe_callB (lenK K) (by rfl) T.z_len PySem.boot_len (pa_cons (v_ 4) pa_nil)) pe_int) (pe_one (pe_c (eqK K hr.units) (pe_callB (lenK K) (by rfl) T.z_len PySem.boot_len (pa_cons (v_ 5) pa_nil)) (pe_callB (lenK K) (by rfl) T.z_len PySem.boot_len (pa_cons (v_ 1) pa_nil)))))) (pss_cons (ps_lock (ps_for PassesOwn.never rfl (pi_keys (v_ 4)) (pg_name (i := 7) sc__law_put_due.nd rfl (.inl rfl)) (pss_one (ps_if (pt_c (notInK K) (v_ 7) (v_ 0)) (pss_one (ps_set (i := 6) sc__law_put_due.nd rfl (.inl rfl) pe_bl)) pss_nil)))) (pss_cons (ps_for PassesOwn.never rfl (pi_list (v_ 1)) (pg_name (i := 8) sc__law_put_due.nd rfl (.inl rfl)) (pss_one (ps_if (pt_cmp (pc_dnotin (hu_of hr) (v_ 8) (v_ 5))) (pss_one (ps_set (i := 6) sc__law_put_due.nd rfl (.inl rfl) pe_bl)) pss_nil))) (pss_cons (ps_if (pt_not (pt_t K (v_ 6))) (pss_one (ps_ret (pe_tup (pa_cons pe_str pa_nil)))) pss_nil) (Evl.pss_cut (ps_if (pt_c (eqK K hr.units) (v_ 3) pe_str) (pss_one (ps_for PassesOwn.never rfl (pi_list (v_ 0)) (pg_name (i := 7) sc__law_put_due.nd rfl (.inl rfl)) (pss_one (ps_for PassesOwn.never rfl (pi_range1 rfl T.z_range (pa_cons (pe_callB (lenK K) (by rfl) T.z_len PySem.boot_len (pa_cons (v_ 2) pa_nil)) pa_nil)) (pg_name (i := 9) sc__law_put_due.nd rfl (.inl rfl)) (pss_one (ps_if (PW.pt (pw_and (pt_cmp (pc_din (hu_of hr) (v_ 7) (v_ 4))) (pw_and (pt_cmp (pc_din (hu_of hr) (v_ 7) (e_x K (e_x K (v_ 2) (v_ 9)) pe_int))) (pw_and1 (pt_c (eqK K hr.units) (pe_dget (hu_of hr) (e_x K (e_x K (v_ 2) (v_ 9)) pe_int) (v_ 7) (fun _ _ => rfl)) (pe_dget (hu_of hr) (v_ 4) (v_ 7) (fun _ _ => rfl))))))) (pss_one (ps_ret (pe_tup (pa_cons pe_str (pa_cons (v_ 7) (pa_cons (v_ 9) pa_nil)))))) pss_nil)))))) pss_nil) (pss_one (ps_ret (pe_tup (pa_cons pe_str (pa_cons (pe_callB (lenK K) (by rfl) T.z_len PySem.boot_len (pa_cons (v_ 2) pa_nil)) pa_nil)))))))))), ?_⟩
  obtain ⟨hp, hc, ez, ey, pint, p100, few, ynd, knd, k4, fnd, f50, r1000⟩ := id hi
  have wl := hws.len
  have zl : pl.length = zs.length := by
    have := congrArg List.length ez
    rwa [List.length_map, List.length_map] at this
  have yl : ct.length = ys.length := by
    have := congrArg List.length ey
    rwa [List.length_map, List.length_map] at this
  have no := new_due (ks := ks) (zs := zs) ynd fnd
  generalize hg0 : (decide (0 < zs.length) && decide (ys.length = fs.length)) = g0 at no
  refine ⟨fun σ' H' => σ' = [some (.ref kk), some (.ref ff), some (.ref R), some (.str word), some (.ref p), some (.ref c), some (.bl (g0)), none, none, none] ∧ H' = H, ?_, ?_⟩
  · refine .inr ⟨pl, hp, ?_⟩
    refine ite2 (fun e => ?_) (fun e => ?_)
    · have e : 0 < zs.length := by
        have e := of_decide_eq_true e
        omega
      refine .inr ⟨ct, hc, .inl ⟨_, .inl (SqL.of hff), ?_⟩⟩
      refine ⟨?_, rfl⟩
      rw [← hg0, decide_eq_true e, Bool.true_and, List.length_map, yl]
      have e2 : decide ((ys.length : Int) = (fs.length : Int)) = decide (ys.length = fs.length) := decide_eq_decide.mpr (by omega)
      show _ = _
      rw [← e2]
      rfl
    · have e : ¬ 0 < zs.length := fun h => e (decide_eq_true (by omega))
      refine ⟨?_, rfl⟩
      rw [← hg0, decide_eq_false e, Bool.false_and]
      rfl
  rintro σ' H' ⟨rfl, rfl⟩
  refine ⟨p, _, hp, trivial, fun od => ?_⟩
  have hp1 : upd H' p (.frz od (.dK pl)) p = some (.frz od (.dK pl)) := upd_same
  have kp1 : ∀ {b o}, H' b = some o → (∀ kv, o ≠ .dK kv) → upd H' p (.frz od (.dK pl)) b = some o := fun {b o} hb m => by
    rw [upd_ne]
    · exact hb
    · intro e
      rw [e, hp] at hb
      exact m _ (Option.some.inj hb).symm
  have hk1 := kp1 hkk (fun _ z => nomatch z)
  have back : ∀ {H2 : Hp}, Same (upd H' p (.frz od (.dK pl))) H2 → Same H' (upd H2 p (.dK pl)) := fun s => lock_back hp s
  generalize upd H' p (.frz od (.dK pl)) = H1 at hp1 hk1 back ⊢
  refine ⟨p, od, rfl, .inl ⟨pl, hp1, ?_⟩⟩
  refine for_it (walk_keys (kvs := pl)) (fun i σ2 H2 => (∃ y7, σ2 = [some (.ref kk), some (.ref ff), some (.ref R), some (.str word), some (.ref p), some (.ref c), some (.bl (g0 && (zs.take i).all (fun z => decide (z ∈ ks)))), y7, none, none]) ∧ H2 = H1) ⟨⟨none, by rw [List.take_zero, List.all_nil, Bool.and_true]⟩, rfl⟩ (fun _ _ _ _ h => by rw [h.2]; exact hp1) ?_ ?_
  · rintro i x σ2 H2 H3 hi2 ⟨⟨y7, rfl⟩, rfl⟩ ⟨rfl, k, v, ek, rfl⟩
    have e1 : (pl.map Prod.fst)[i]? = some k := by rw [List.getElem?_map, ek]; rfl
    rw [ez, List.getElem?_map] at e1
    obtain ⟨z, e2, rfl⟩ := Option.map_eq_some_iff.mp e1
    refine ⟨_, .inl (SqL.of hk1), rfl, flat_strs, ?_⟩
    have e3 : inV (kV (kS z)) (ks.map V.str) = decide (z ∈ ks) := inV_str
    rw [e3]
    refine ite2 (fun m => ?_) (fun m => ?_)
    · have m : decide (z ∈ ks) = false := by simpa using m
      refine ⟨⟨some (kV (kS z)), ?_⟩, rfl⟩
      rw [take_snoc e2, List.all_append, List.all_cons, List.all_nil, m, Bool.false_and, Bool.and_false, Bool.and_false]
      rfl
    · have m : decide (z ∈ ks) = true := by simpa using m
      refine ⟨⟨some (kV (kS z)), ?_⟩, rfl⟩
      rw [take_snoc e2, List.all_append, List.all_cons, List.all_nil, m, Bool.true_and, Bool.and_true]
      rfl
  rintro σ2 H2 ⟨⟨y7, rfl⟩, rfl⟩
  rw [zl, List.take_length]
  refine ⟨hp1, ?_⟩
  have sB := back (Same.refl _)
  generalize upd H2 p (.dK pl) = H2 at sB ⊢
  clear hp1 kp1 hk1 back
  generalize hg1 : zs.all (fun z => decide (z ∈ ks)) = g1 at no ⊢
  -- the fields
  refine ⟨ff, rfl, ⟨_, SqL.of (sB _ _ hff)⟩, ?_⟩
  refine for_list (K := K) (a := ff) (xs := fs.map V.str) (fun i σ' H3 => (∃ y8, σ' = [some (.ref kk), some (.ref ff), some (.ref R), some (.str word), some (.ref p), some (.ref c), some (.bl ((g0 && g1) && (fs.take i).all (fun z => decide (z ∈ ys)))), y7, y8, none]) ∧ H3 = H2) ⟨⟨none, by rw [List.take_zero, List.all_nil, Bool.and_true]⟩, rfl⟩ (fun _ _ _ _ h => by rw [h.2]; exact SqL.of (sB _ _ hff)) ?_ ?_
  · rintro i x σ' H3 hx ⟨⟨y8, rfl⟩, rfl⟩
    rw [List.getElem?_map] at hx
    obtain ⟨z, ez2, rfl⟩ := Option.map_eq_some_iff.mp hx
    have es : (valV ct (kS z)).isSome = decide (z ∈ ys) := by
      rw [← valV_any, Bool.eq_iff_iff, List.any_eq_true, decide_eq_true_iff]
      constructor
      · rintro ⟨w, hw, e⟩
        have : kS z ∈ ct.map Prod.fst := List.mem_map.mpr ⟨w, hw, of_decide_eq_true e⟩
        rw [ey] at this
        obtain ⟨y, hy, e2⟩ := List.mem_map.mp this
        exact kS_inj e2 ▸ hy
      · intro hz
        have : kS z ∈ ct.map Prod.fst := by rw [ey]; exact List.mem_map.mpr ⟨z, hz, rfl⟩
        obtain ⟨w, hw, e⟩ := List.mem_map.mp this
        exact ⟨w, hw, decide_eq_true e⟩
    refine ⟨c, _, rfl, DGet.k (k := kS z) (sB _ _ hc), _, rfl, ?_⟩
    rw [es]
    refine ite2 (fun m => ?_) (fun m => ?_)
    · have m : decide (z ∈ ys) = false := by simpa using m
      refine ⟨⟨some (.str z), ?_⟩, rfl⟩
      rw [take_snoc ez2, List.all_append, List.all_cons, List.all_nil, m, Bool.false_and, Bool.and_false, Bool.and_false]
      rfl
    · have m : decide (z ∈ ys) = true := by simpa using m
      refine ⟨⟨some (.str z), ?_⟩, rfl⟩
      rw [take_snoc ez2, List.all_append, List.all_cons, List.all_nil, m, Bool.true_and, Bool.and_true]
      rfl
  rintro σ' H3 ⟨⟨y8, rfl⟩, rfl⟩
  rw [List.length_map, List.take_length, Bool.and_assoc, ← no]
  refine ite2 (fun g => ?_) (fun g => ?_)
  · have g : newOk ks fs zs ys = false := by simpa using g
    refine ⟨(by show 1 ≤ sizeLine; decide), fun t nt => ?_⟩
    refine q _ t (sB.trans (same_new nt)) ?_
    unfold PutT
    rw [g, if_neg (by decide)]
    exact upd_same
  have g : newOk ks fs zs ys = true := by simpa using g
  have rN : (rs.map (·.r)).length = rs.length := List.length_map _
  refine ⟨fun σ2 H2' => (∃ y7 y9, σ2 = [some (.ref kk), some (.ref ff), some (.ref R), some (.str word), some (.ref p), some (.ref c), some (.bl (newOk ks fs zs ys)), y7, y8, y9]) ∧ H2' = H3 ∧ (if decide (word = "put") = true then takenAt (rs.map (·.r)) pl ks else none) = none, ?_, ?_⟩
  rotate_left
  · rintro σ2 H4 ⟨⟨y7, y9, rfl⟩, rfl, tn⟩
    refine .inl ⟨_, .inl (SqL.of (sB _ _ hR)), (by show 2 ≤ sizeLine; decide), fun t nt => ?_⟩
    refine q _ t (sB.trans (same_new nt)) ?_
    unfold PutT
    rw [g, if_pos rfl, tn, rN, ← wl]
    exact upd_same
  refine ite2 (fun ew => ?_) (fun ew => ?_)
  rotate_left
  · have ew : decide (word = "put") = false := by
      have ew : ¬ decide (word = "put") = true := ew
      simpa using ew
    exact ⟨⟨_, _, rfl⟩, rfl, by rw [ew]; rfl⟩
  have ew : decide (word = "put") = true := ew
  rw [ew, if_pos rfl]
  refine ⟨kk, rfl, ⟨_, SqL.of (sB _ _ hkk)⟩, ?_⟩
  refine for_list (K := K) (a := kk) (xs := ks.map V.str) (fun i σ' H4 => (∃ y7 y9, σ' = [some (.ref kk), some (.ref ff), some (.ref R), some (.str word), some (.ref p), some (.ref c), some (.bl (newOk ks fs zs ys)), y7, y8, y9]) ∧ H4 = H3 ∧ takenAt (rs.map (·.r)) pl ks = takenAt (rs.map (·.r)) pl (ks.drop i)) ⟨⟨_, _, rfl⟩, rfl, rfl⟩ (fun _ _ _ _ h => by rw [h.2.1]; exact SqL.of (sB _ _ hkk)) ?_ ?_
  rotate_left
  · rintro σ' H4 ⟨⟨y7, y9, rfl⟩, rfl, go⟩
    rw [List.length_map, List.drop_length] at go
    exact ⟨⟨_, _, rfl⟩, rfl, go⟩
  rintro i x σ' H4 hx ⟨⟨y7, y9, rfl⟩, rfl, go⟩
  rw [List.getElem?_map] at hx
  obtain ⟨k, ek, rfl⟩ := Option.map_eq_some_iff.mp hx
  have dr : ks.drop i = k :: ks.drop (i + 1) := by
    obtain ⟨h1, h2⟩ := List.getElem?_eq_some_iff.mp ek
    rw [List.drop_eq_getElem_cons h1, h2]
  rw [dr] at go
  refine .inl ⟨_, .inl (SqL.of (sB _ _ hR)), _, rfl, by omega, by omega, ?_⟩
  refine for_range (lo := 0) (n := ws.length) (fun m σ' H5 => (∃ y9, σ' = [some (.ref kk), some (.ref ff), some (.ref R), some (.str word), some (.ref p), some (.ref c), some (.bl (newOk ks fs zs ys)), some (.str k), y8, y9]) ∧ H5 = H4 ∧ ∀ v, valV pl (kS k) = some (.int v) → ∀ x ∈ (rs.map (·.r)).take m, hits k v x = false) ⟨⟨_, rfl⟩, rfl, (fun _ _ _ h => nomatch h)⟩ ?_ ?_
  · rintro m σ' H5 hm ⟨⟨y9, rfl⟩, rfl, nh⟩
    obtain ⟨x, ex⟩ : ∃ x, rs[m]? = some x := ⟨_, List.getElem?_eq_getElem (by omega)⟩
    obtain ⟨w, ew2, tt, rfl, h1, h2, h3⟩ := hws.to ex
    have iw : atI ws ((0 : Int) + (m : Int)) = some (.ref tt) := by rw [Int.zero_add]; exact atI_nat ew2
    have i0 : atI [V.ref x.p, .ref x.c] (0 : Int) = some (.ref x.p) := rfl
    have er : (rs.map (·.r))[m]? = some x.r := by rw [List.getElem?_map, ex]; rfl
    have gon : (∀ v, valV pl (kS k) = some (.int v) → hits k v x.r = false) → ∀ v, valV pl (kS k) = some (.int v) → ∀ y ∈ (rs.map (·.r)).take (m + 1), hits k v y = false := fun h v hv y hy => by
      rw [take_snoc er] at hy
      rcases List.mem_append.mp hy with h1 | h1
      · exact nh v hv y h1
      · rw [List.mem_singleton.mp h1]; exact h v hv
    refine ⟨p, _, rfl, DGet.k (k := kS k) (sB _ _ hp), _, rfl, ?_⟩
    cases e : valV pl (kS k) with
    | none =>
      rw [e] at gon
      exact ⟨⟨_, rfl⟩, rfl, gon fun v hv => by cases hv⟩
    | some v0 =>
      obtain ⟨v, rfl⟩ := pint _ (val_mem e)
      rw [e] at gon
      refine ⟨_, .inl (SqL.of (sB _ _ hR)), _, iw, _, .inr (SqT.of (sB _ _ h1)), _, i0, x.p, _, rfl, DGet.k (k := kS k) (sB _ _ h2), _, rfl, ?_⟩
      cases e2 : valV x.r.1 (kS k) with
      | none =>
        refine ⟨⟨_, rfl⟩, rfl, gon fun v' hv => ?_⟩
        cases hh : hits k v' x.r with
        | false => rfl
        | true => rw [hits_some.mp hh] at e2; cases e2
      | some w =>
        obtain ⟨j, rfl⟩ := hin x (List.mem_of_getElem? ex) _ (val_mem e2)
        refine ⟨_, .inl (SqL.of (sB _ _ hR)), _, iw, _, .inr (SqT.of (sB _ _ h1)), _, i0, x.p, _, rfl, by rw [← e2]; exact DGet.k (k := kS k) (sB _ _ h2), p, _, rfl, by rw [← e]; exact DGet.k (k := kS k) (sB _ _ hp), ?_⟩
        refine ite2 (fun cc => ?_) (fun cc => ?_)
        · have cc : j = v := of_decide_eq_true cc
          subst cc
          refine ⟨(by show 3 ≤ sizeLine; decide), fun t nt => ?_⟩
          refine q _ t (sB.trans (same_new nt)) ?_
          have fa := first_at (nh j e) er (hits_some.mpr e2)
          have tk : takenAt (rs.map (·.r)) pl ks = some (k, m) := by
            rw [go]
            show (match valV pl (kS k) with | some (.int v) => _ | _ => _) = _
            rw [e]
            show (match firstAt (rs.map (·.r)) k j with | some j => _ | none => _) = _
            rw [fa]
          unfold PutT
          rw [g, if_pos rfl, ew, if_pos rfl, tk]
          show upd _ t _ t = some (.tup [.str "taken", .str k, .int (m : Int)])
          rw [upd_same, Int.zero_add]
        · have cc : ¬ j = v := fun h => cc (decide_eq_true h)
          refine ⟨⟨_, rfl⟩, rfl, gon fun v' hv => ?_⟩
          cases hv
          cases hh : hits k v x.r with
          | false => rfl
          | true =>
            have := (hits_some.mp hh).symm.trans e2
            cases this
            exact absurd rfl cc
  · rintro σ' H5 ⟨⟨y9, rfl⟩, rfl, nh⟩
    rw [List.take_of_length_le (by rw [List.length_map]; omega)] at nh
    refine ⟨⟨_, _, rfl⟩, rfl, go.trans ?_⟩
    show (match valV pl (kS k) with | some (.int v) => _ | _ => _) = _
    cases e : valV pl (kS k) with
    | none => rfl
    | some v0 =>
      obtain ⟨v, rfl⟩ := pint _ (val_mem e)
      show (match firstAt (rs.map (·.r)) k v with | some j => _ | none => _) = _
      rw [first_none (nh v e)]
end
section
variable {P : Program} {w : World} {K : PySem.W.Frag} {mg : Str → Option Value} {base : Heap}
variable {a_BadRow a_ElseputError a_NoRow a_Table a_Taken a_UnknownField a_UnknownKey a_UnknownName : Addr}
theorem same_ref {H : Hp} {t u : Addr} {xs ys : List V} {n : Nat} (h1 : H t = some (.lst xs)) (h2 : H u = some (.lst ys)) (hl : xs.length = ys.length) (h4 : ys.length ≤ 1000) (h : ∀ (i : Nat) (a b : V), xs[i]? = some a → ys[i]? = some b → SameV K H n a b) : SameV K H (n + 1) (.ref t) (.ref u) :=
  .inr (.inr (.inl ⟨t, u, _, _, rfl, rfl, h1, h2, hl, h4, h⟩))
theorem same_strsL {H : Hp} {t u : Addr} {zs : List Str} {n : Nat} (h1 : H t = some (.lst (zs.map V.str))) (h2 : H u = some (.lst (zs.map V.str))) (hl : zs.length ≤ 1000) : SameV K H (n + 2) (.ref t) (.ref u) :=
  same_ref h1 h2 rfl (by rw [List.length_map]; exact hl) fun i a b ha hb => by
    rw [ha] at hb
    cases hb
    rw [List.getElem?_map] at ha
    obtain ⟨z, hz, rfl⟩ := Option.map_eq_some_iff.mp ha
    exact same_str z
theorem same_dk {H : Hp} {t u : Addr} {l : Kvs} {n : Nat} (h1 : H t = some (.dK l)) (h2 : H u = some (.dK l)) (hi : Ints l) : SameV K H (n + 2) (.ref t) (.ref u) :=
  .inr (.inr (.inr ⟨t, u, l, l, rfl, rfl, h1, h2, rfl, Nat.succ_ne_zero n, fun i k v e => by
    have m : (k, v) ∈ l := List.mem_of_getElem? e
    obtain ⟨w, hw⟩ := Option.isSome_iff_exists.mp (key_some (k := k) (List.mem_map.mpr ⟨_, m, rfl⟩))
    obtain ⟨j, ej⟩ := hi _ (val_mem hw)
    have ej : w = .int j := ej
    exact ⟨w, .inl ⟨j, ej⟩, hw, hw⟩⟩))
/-- the row is taken in -/
def Acc (ks fs zs ys : List Str) (R : List TRow) (pl : Kvs) (put : Bool) : Prop := newOk ks fs zs ys = true ∧ (if put = true then takenAt R pl ks else none) = none
def sp__law_try_put (K : PySem.W.Frag) : Sp := fun vs H Q _ => ∃ (a L F p c : Addr) (ks fs zs ys : List Str) (rows : List Tr) (pl ct : Kvs) (word : Str), vs = [.ref a, .str word, .ref p, .ref c] ∧ TbAt K H a L F ks fs rows ∧ PutIn H p c ks fs zs ys rows.length pl ct ∧ Ints ct ∧ (∀ z ∈ ks, z.length ≤ 1000 ∧ Asc z) ∧ p ≠ c ∧
  (∀ (H' : Hp) (t : Addr), Same H H' → ¬ Acc ks fs zs ys (rows.map (·.r)) pl (decide (word = "put")) → PutT H' t ks fs zs ys (rows.map (·.r)) pl (decide (word = "put")) → Q (.ref t) H') ∧
  (∀ (H' : Hp) (t : Addr) (x : Tr), Fr (fun b => b = L ∨ b = F) H H' → Acc ks fs zs ys (rows.map (·.r)) pl (decide (word = "put")) → H x.p = none → H x.c = none → x.p ≠ x.c → x.r = (ordK ks pl, ordK fs ct) → TbAt K H' a L F ks fs (rows ++ [x]) → PutT H' t ks fs zs ys (rows.map (·.r)) pl (decide (word = "put")) → Q (.ref t) H')
theorem len__law_try_put {vs : List V} {H : Hp} {Q : VK} {E : XK} (h : sp__law_try_put K vs H Q E) : vs.length = 4 := by
  obtain ⟨_, _, _, _, _, _, _, _, _, _, _, _, _, rfl, _⟩ := h
  rfl
theorem PutT.keep {H H' : Hp} {t : Addr} {ks fs zs ys : List Str} {R : List TRow} {pl : Kvs} {put : Bool} (h : PutT H t ks fs zs ys R pl put) (k : ∀ xs, H t = some (.tup xs) → H' t = some (.tup xs)) : PutT H' t ks fs zs ys R pl put := by
  unfold PutT at h ⊢
  by_cases ok : newOk ks fs zs ys = true
  · rw [if_pos ok] at h ⊢
    generalize (if put = true then takenAt R pl ks else none) = o at h ⊢
    cases o with
    | none => exact k _ h
    | some q => exact k _ h
  · rw [if_neg ok] at h ⊢
    exact k _ h
theorem ok__law_try_put {f : Addr} {fd : FuncData} {f__law_same : Addr} {fd__law_same : FuncData} {f_Table_put : Addr} {fd_Table_put : FuncData} {f_Table_enter : Addr} {fd_Table_enter : FuncData} (F : Fun K "_law_try_put" "_law_try_put" s__law_try_put f fd) (T : Gs K mg a_BadRow a_ElseputError a_NoRow a_Table a_Taken a_UnknownField a_UnknownKey a_UnknownName) (c__law_same : Cal P w K mg base CX0 26 "_law_same" f__law_same fd__law_same ["_law_actual", "_law_due"] (sp__law_same K)) (c_Table_put : CalM P w K mg base (L2.CX P w) 5 a_Table "put" f_Table_put fd_Table_put ["self", "places", "content"] (sp_Table_put K)) (c_Table_enter : CalM P w K mg base (L2.CX P w) 4 a_Table "enter" f_Table_enter fd_Table_enter ["self", "places", "content"] (sp_Table_enter K)) : FnOk P w K mg base CX0 27 f fd ["_law_table", "_law_word", "_law_places", "_law_content"] (sp__law_try_put K) := by
  refine F.ok sc__law_try_put (fun vs H Q E h => len__law_try_put h) (fun cdv A outer s H vs Q E hr h => ?_)
  obtain ⟨a, L, F, p, c, ks, fs, zs, ys, rows, pl, ct, word, rfl, hT, hi, cint, kw, pc, q1, q2⟩ := h
  refine ⟨_, (pss_cons (ps_set (i := 4) sc__law_try_put.nd rfl (.inl rfl) (pe_lst (pa_cons (pe_callTy call_dictD (by rfl) T.z_dict (by decide +kernel) (pa_cons (v_ 2) pa_nil)) (pa_cons (pe_callTy call_dictD (by rfl) T.z_dict (by decide +kernel) (pa_cons (v_ 3) pa_nil)) pa_nil)))) (pss_cons (ps_set (i := 5) sc__law_try_put.nd rfl (.inl rfl) (pe_tup (pa_cons pe_str pa_nil))) (Evl.pss_cut (ps_try_as (i := 6) rfl rfl sc__law_try_put.nd rfl rfl ⟨rfl, by decide +kernel, .inl T.g_ElseputError⟩ takes0 (fun W pn xe tk po => (pss_one (ps_if (pt_c (eqK K hr.units) (v_ 1) pe_str) (pss_one (ps_set (i := 5) sc__law_try_put.nd rfl (.inl rfl) (pe_tup (pa_cons pe_str (pa_cons (pe_mcS (v_ 0) c_Table_put.cl c_Table_put.me c_Table_put.G (hr.mono (by first | decide | omega)) c_Table_put.b (fun σ => passAt tk σ) (pa_cons (e_x K (v_ 4) pe_int) (pa_cons (e_x K (v_ 4) pe_int) pa_nil))) pa_nil))))) (pss_one (ps_set (i := 5) sc__law_try_put.nd rfl (.inl rfl) (pe_tup (pa_cons pe_str (pa_cons (pe_mcS (v_ 0) c_Table_enter.cl c_Table_enter.me c_Table_enter.G (hr.mono (by first | decide | omega)) c_Table_enter.b (fun σ => passAt tk σ) (pa_cons (e_x K (v_ 4) pe_int) (pa_cons (e_x K (v_ 4) pe_int) pa_nil))) pa_nil)))))))) (fun ea oe ecls ed epn hz hf => (pss_cons (ps_set (i := 7) sc__law_try_put.nd rfl (.inl rfl) (pe_tup (pa_cons (pe_callB (call_isN hz hf) (by rfl) T.z_isinstance (by decide +kernel) (pa_cons (v_ 6) (pa_cons (pe_glob (v := .ref a_BadRow) rfl T.g_BadRow rfl) pa_nil))) (pa_cons (pe_callB (call_isN hz hf) (by rfl) T.z_isinstance (by decide +kernel) (pa_cons (v_ 6) (pa_cons (pe_glob (v := .ref a_Taken) rfl T.g_Taken rfl) pa_nil))) (pa_cons (pe_callB (call_isN hz hf) (by rfl) T.z_isinstance (by decide +kernel) (pa_cons (v_ 6) (pa_cons (pe_bltn (v := .ty "ValueError") (u := .type "ValueError") (by rfl) T.z_ValueError (by decide +kernel) rfl) pa_nil))) pa_nil))))) (Evl.pss_cut (ps_if (pt_c (eqK K hr.units) (v_ 7) (pe_tup (pa_cons pe_bl (pa_cons pe_bl (pa_cons pe_bl pa_nil))))) (pss_one (ps_set (i := 5) sc__law_try_put.nd rfl (.inl rfl) (pe_tup (pa_cons pe_str pa_nil)))) pss_nil) (pss_one (ps_if (pt_c (eqK K hr.units) (v_ 7) (pe_tup (pa_cons pe_bl (pa_cons pe_bl (pa_cons pe_bl pa_nil))))) (pss_one (ps_set (i := 5) sc__law_try_put.nd rfl (.inl rfl) (pe_tup (pa_cons pe_str (pa_cons (pe_xf T.x_Taken.xf (T.x_Taken.no _ (by decide)) hz hf (v_ 6)) (pa_cons (pe_xf T.x_Taken.xf (T.x_Taken.no _ (by decide)) hz hf (v_ 6)) pa_nil)))))) pss_nil)))))) (pss_cons (ps_if (pt_not (pt_t K (pe_call c__law_same.G (hr.mono (by first | decide | omega)) rfl c__law_same.m c__law_same.kp c__law_same.b .nil pass0 (pa_cons (v_ 4) (pa_cons (pe_lst (pa_cons (v_ 2) (pa_cons (v_ 3) pa_nil))) pa_nil))))) (pss_one (ps_ret (pe_tup (pa_cons pe_str pa_nil)))) pss_nil) (pss_cons (ps_expr (pe_dclear (e_x K (v_ 4) pe_int))) (pss_cons (ps_expr (pe_dclear (e_x K (v_ 4) pe_int))) (pss_one (ps_ret (v_ 5))))))))), ?_⟩
  obtain ⟨C, dx, tt, uu, vs, kvs, hC, ha, ht, hu, hL, hrw, hF, hk⟩ := id hT
  cases hC.symm.trans T.n_Table
  refine ⟨p, _, rfl, .inl hi.hp, fun h1 n1 => ?_⟩
  have s1 := same_new (o := .dK pl) n1
  have hh1 := upd_same (H := H) (a := h1) (o := .dK pl)
  generalize upd H h1 (.dK pl) = H1 at s1 hh1 ⊢
  refine ⟨c, _, rfl, .inl (s1 _ _ hi.hc), fun h2 n2 => ?_⟩
  have s2 := s1.trans (same_new (o := .dK ct) n2)
  have h12 : h1 ≠ h2 := ne_of_none hh1 n2
  have hh1 := same_new (o := .dK ct) n2 _ _ hh1
  have hh2 := upd_same (H := H1) (a := h2) (o := .dK ct)
  have n2 := Same.free s1 n2
  generalize upd H1 h2 (.dK ct) = H2 at s2 hh1 hh2 ⊢
  refine ⟨(by show 2 ≤ sizeLine; decide), fun D nD => ?_⟩
  have sD := same_new (o := .lst [.ref h1, .ref h2]) nD
  have s3 := s2.trans sD
  have hD := upd_same (H := H2) (a := D) (o := .lst [.ref h1, .ref h2])
  have hh1 := sD _ _ hh1
  have hh2 := sD _ _ hh2
  have D0 := Same.free s2 nD
  generalize upd H2 D (.lst [.ref h1, .ref h2]) = H3 at s3 hh1 hh2 hD ⊢
  clear s1 s2 sD nD
  refine ⟨(by show 1 ≤ sizeLine; decide), fun t0 nt0 => ?_⟩
  have sn := same_new (o := .tup [.str "strange"]) nt0
  have s4 := s3.trans sn
  have hD := sn _ _ hD
  have hh1 := sn _ _ hh1
  have hh2 := sn _ _ hh2
  generalize upd H3 t0 (.tup [.str "strange"]) = H4 at s4 hh1 hh2 hD ⊢
  clear sn s3 nt0
  have hh14 := hh1
  have hh24 := hh2
  have hi4 : PutIn H4 h1 h2 ks fs zs ys rows.length pl ct := ⟨hh1, hh2, hi.ez, hi.ey, hi.pi, hi.p100, hi.few, hi.ynd, hi.knd, hi.k4, hi.fnd, hi.f50, hi.r1000⟩
  refine ⟨fun σ' H' => ∃ t y7, σ' = [some (.ref a), some (.str word), some (.ref p), some (.ref c), some (.ref D), some (.ref t), none, y7] ∧ ((¬ Acc ks fs zs ys (rows.map (·.r)) pl (decide (word = "put")) ∧ Same H4 H' ∧ PutT H' t ks fs zs ys (rows.map (·.r)) pl (decide (word = "put"))) ∨ (Acc ks fs zs ys (rows.map (·.r)) pl (decide (word = "put")) ∧ ∃ x : Tr, Fr (fun b => b = L ∨ b = F) H4 H' ∧ H4 x.p = none ∧ H4 x.c = none ∧ x.p ≠ x.c ∧ x.r = (ordK ks pl, ordK fs ct) ∧ TbAt K H' a L F ks fs (rows ++ [x]) ∧ PutT H' t ks fs zs ys (rows.map (·.r)) pl (decide (word = "put")))) ∧ H' D = some (.lst [.ref h1, .ref h2]) ∧ H' h1 = some (.dK pl) ∧ H' h2 = some (.dK ct), ?_, ?_⟩
  · refine ite2 (fun ew => ?_) (fun ew => ?_)
    · have ew : decide (word = "put") = true := ew
      refine ⟨a, dx, _, rfl, s4 _ _ ha, rfl, _, .inl (SqL.of hD), .ref h1, atI_nat (j := 0) rfl, _, .inl (SqL.of hD), .ref h2, atI_nat (j := 1) rfl, a, L, F, h1, h2, ks, fs, zs, ys, rows, pl, ct, rfl, hT.same s4, hi4, kw, ?_⟩
      by_cases ok : newOk ks fs zs ys = true
      · rw [if_pos ok]
        cases tk : takenAt (rows.map (·.r)) pl ks with
        | some kj =>
          obtain ⟨k, j⟩ := kj
          intro B d2 H6 hB s6 nd2 hd2
          cases hB.symm.trans T.n_Taken
          refine ⟨true, T.m_Taken_ElseputError, fun _ e ne => ?_, fun h => nomatch h⟩
          refine .inl ⟨_, d2, _, _, _, false, rfl, rfl, rfl, hd2, T.x_Taken.is, fun u h => h, T.k_Taken_BadRow, ?_⟩
          refine .inl ⟨_, d2, _, _, _, true, rfl, rfl, rfl, hd2, T.x_Taken.is, fun u h => h, T.k_Taken_Taken, ?_⟩
          refine .inl ⟨_, d2, _, _, _, true, rfl, rfl, rfl, hd2, T.x_Taken.is, fun u h => h, T.k_Taken_ValueError, ?_⟩
          refine ⟨(by show 3 ≤ sizeLine; decide), fun t1 m1 => ?_⟩
          have s7 := s6.trans (same_new (o := .tup [.bl false, .bl true, .bl true]) m1)
          have k1 := upd_same (H := H6) (a := t1) (o := .tup [.bl false, .bl true, .bl true])
          have hd2 := same_new (o := .tup [.bl false, .bl true, .bl true]) m1 _ _ hd2
          generalize upd H6 t1 (.tup [.bl false, .bl true, .bl true]) = H7 at s7 k1 hd2 ⊢
          refine ⟨fun σ' H' => ∃ t, σ' = [some (.ref a), some (.str word), some (.ref p), some (.ref c), some (.ref D), some (.ref t), some (.ref e), some (.ref t1)] ∧ Same H7 H' ∧ True, ?_, ?_⟩
          · refine ⟨(by show 3 ≤ sizeLine; decide), fun t2 m2 => ?_⟩
            have s8 := same_new (o := .tup [.bl true, .bl false, .bl true]) m2
            have k2 := upd_same (H := H7) (a := t2) (o := .tup [.bl true, .bl false, .bl true])
            have k1 := s8 _ _ k1
            generalize upd H7 t2 (.tup [.bl true, .bl false, .bl true]) = H8 at s8 k1 k2 ⊢
            refine ⟨_, _, .tup (SqT.of k1) (.cons (.bl _) (.cons (.bl _) (.cons (.bl _) .nil))), .tup (SqT.of k2) (.cons (.bl _) (.cons (.bl _) (.cons (.bl _) .nil))), rfl, rfl, ?_⟩
            refine ite2 (fun e => absurd e (by decide +kernel)) (fun _ => ?_)
            exact ⟨t0, rfl, s8, trivial⟩
          rintro σ' H9 ⟨t, rfl, s9, ht9⟩
          have s79 := s7.trans s9
          have k1 := s9 _ _ k1
          have hd2 := s9 _ _ hd2
          refine ⟨(by show 3 ≤ sizeLine; decide), fun t3 m3 => ?_⟩
          have s10 := same_new (o := .tup [.bl false, .bl true, .bl true]) m3
          have k3 := upd_same (H := H9) (a := t3) (o := .tup [.bl false, .bl true, .bl true])
          have k1 := s10 _ _ k1
          have hd2 := s10 _ _ hd2
          have s710 := s79.trans s10
          generalize upd H9 t3 (.tup [.bl false, .bl true, .bl true]) = HA at s710 k1 k3 hd2 ⊢
          refine ⟨_, _, .tup (SqT.of k1) (.cons (.bl _) (.cons (.bl _) (.cons (.bl _) .nil))), .tup (SqT.of k3) (.cons (.bl _) (.cons (.bl _) (.cons (.bl _) .nil))), rfl, rfl, ?_⟩
          refine ite2 (fun _ => ?_) (fun e => absurd (by decide +kernel) e)
          refine ⟨rfl, rfl, d2, _, _, rfl, hd2, rfl, rfl, rfl, d2, _, _, rfl, hd2, rfl, (by show 3 ≤ sizeLine; decide), fun t' nt => ?_⟩
          have s11 := s710.trans (same_new (o := .tup [.str "taken", .str k, .int (j : Int)]) nt)
          refine ⟨t', _, rfl, .inl ⟨fun ac => ?_, s11, ?_⟩, s11 _ _ hD, s11 _ _ hh1, s11 _ _ hh2⟩
          · have z := ac.2
            rw [ew, if_pos rfl, tk] at z
            cases z
          · unfold PutT
            rw [if_pos ok, ew, if_pos rfl, tk]
            exact upd_same
        | none =>
          intro H6 x f6 m1 m2 ne ex hTx
          refine ⟨(by show 2 ≤ sizeLine; decide), fun t nt => ?_⟩
          have sn := same_new (o := .tup [.str "let", .int (rows.length : Int)]) nt
          have kD : ∀ {b o}, H4 b = some o → b ≠ L → b ≠ F → upd H6 t (.tup [.str "let", .int (rows.length : Int)]) b = some o := fun {b o} hb n1 n2 => sn _ _ (f6 _ _ (fun n => n.elim n1 n2) hb)
          have DL : D ≠ L := fun e => by rw [e, hL] at D0; cases D0
          have DF : D ≠ F := fun e => by rw [e, hF] at D0; cases D0
          have h1L : h1 ≠ L := fun e => by rw [e, hL] at n1; cases n1
          have h1F : h1 ≠ F := fun e => by rw [e, hF] at n1; cases n1
          have h2L : h2 ≠ L := fun e => by rw [e, hL] at n2; cases n2
          have h2F : h2 ≠ F := fun e => by rw [e, hF] at n2; cases n2
          have ac : Acc ks fs zs ys (rows.map (·.r)) pl (decide (word = "put")) := ⟨ok, by rw [ew, if_pos rfl]; exact tk⟩
          refine ⟨t, _, rfl, .inr ⟨ac, x, f6.trans (Fr.same sn), m1, m2, ne, ex, hTx.same sn, ?_⟩, kD hD DL DF, kD hh1 h1L h1F, kD hh2 h2L h2F⟩
          unfold PutT
          rw [if_pos ok, ac.2]
          show upd H6 t _ t = some (.tup [.str "let", .int ((rows.map (·.r)).length : Int)])
          rw [upd_same, List.length_map]
      · rw [if_neg ok]
        intro B H6 hB s6
        cases hB.symm.trans T.n_BadRow
        refine ⟨true, T.m_BadRow_ElseputError, fun _ e ne => ?_, fun h => nomatch h⟩
        refine .inr ⟨_, _, _, true, rfl, rfl, rfl, T.x_BadRow.is, fun u h => h, T.k_BadRow_BadRow, ?_⟩
        refine .inr ⟨_, _, _, false, rfl, rfl, rfl, T.x_BadRow.is, fun u h => h, T.k_BadRow_Taken, ?_⟩
        refine .inr ⟨_, _, _, true, rfl, rfl, rfl, T.x_BadRow.is, fun u h => h, T.k_BadRow_ValueError, ?_⟩
        refine ⟨(by show 3 ≤ sizeLine; decide), fun t1 m1 => ?_⟩
        have s7 := s6.trans (same_new (o := .tup [.bl true, .bl false, .bl true]) m1)
        have k1 := upd_same (H := H6) (a := t1) (o := .tup [.bl true, .bl false, .bl true])
        generalize upd H6 t1 (.tup [.bl true, .bl false, .bl true]) = H7 at s7 k1 ⊢
        refine ⟨fun σ' H' => ∃ t, σ' = [some (.ref a), some (.str word), some (.ref p), some (.ref c), some (.ref D), some (.ref t), some (.ref e), some (.ref t1)] ∧ Same H7 H' ∧ H' t = some (.tup [.str "row"]), ?_, ?_⟩
        · refine ⟨(by show 3 ≤ sizeLine; decide), fun t2 m2 => ?_⟩
          have s8 := same_new (o := .tup [.bl true, .bl false, .bl true]) m2
          have k2 := upd_same (H := H7) (a := t2) (o := .tup [.bl true, .bl false, .bl true])
          have k1 := s8 _ _ k1
          generalize upd H7 t2 (.tup [.bl true, .bl false, .bl true]) = H8 at s8 k1 k2 ⊢
          refine ⟨_, _, .tup (SqT.of k1) (.cons (.bl _) (.cons (.bl _) (.cons (.bl _) .nil))), .tup (SqT.of k2) (.cons (.bl _) (.cons (.bl _) (.cons (.bl _) .nil))), rfl, rfl, ?_⟩
          refine ite2 (fun _ => ?_) (fun e => absurd (by decide +kernel) e)
          refine ⟨(by show 1 ≤ sizeLine; decide), fun t nt => ?_⟩
          exact ⟨t, rfl, s8.trans (same_new nt), upd_same⟩
        rintro σ' H9 ⟨t, rfl, s9, ht9⟩
        have s79 := s7.trans s9
        have k1 := s9 _ _ k1
        refine ⟨(by show 3 ≤ sizeLine; decide), fun t3 m3 => ?_⟩
        have s10 := same_new (o := .tup [.bl false, .bl true, .bl true]) m3
        have k3 := upd_same (H := H9) (a := t3) (o := .tup [.bl false, .bl true, .bl true])
        have k1 := s10 _ _ k1
        have ht9 := s10 _ _ ht9
        have s710 := s79.trans s10
        generalize upd H9 t3 (.tup [.bl false, .bl true, .bl true]) = HA at s710 k1 k3 ht9 ⊢
        refine ⟨_, _, .tup (SqT.of k1) (.cons (.bl _) (.cons (.bl _) (.cons (.bl _) .nil))), .tup (SqT.of k3) (.cons (.bl _) (.cons (.bl _) (.cons (.bl _) .nil))), rfl, rfl, ?_⟩
        refine ite2 (fun e => absurd e (by decide +kernel)) (fun _ => ?_)
        refine ⟨t, _, rfl, .inl ⟨fun ac => ok ac.1, s710, ?_⟩, s710 _ _ hD, s710 _ _ hh1, s710 _ _ hh2⟩
        unfold PutT
        rw [if_neg ok]
        exact ht9
    · have ew : decide (word = "put") = false := by
        have ew : ¬ decide (word = "put") = true := ew
        simpa using ew
      refine ⟨a, dx, _, rfl, s4 _ _ ha, rfl, _, .inl (SqL.of hD), .ref h1, atI_nat (j := 0) rfl, _, .inl (SqL.of hD), .ref h2, atI_nat (j := 1) rfl, a, L, F, h1, h2, ks, fs, zs, ys, rows, pl, ct, rfl, hT.same s4, hi4, ?_⟩
      by_cases ok : newOk ks fs zs ys = true
      · rw [if_pos ok]
        intro H6 x f6 m1 m2 ne ex hTx
        refine ⟨(by show 2 ≤ sizeLine; decide), fun t nt => ?_⟩
        have sn := same_new (o := .tup [.str "let", .int (rows.length : Int)]) nt
        have kD : ∀ {b o}, H4 b = some o → b ≠ L → b ≠ F → upd H6 t (.tup [.str "let", .int (rows.length : Int)]) b = some o := fun {b o} hb n1 n2 => sn _ _ (f6 _ _ (fun n => n.elim n1 n2) hb)
        have DL : D ≠ L := fun e => by rw [e, hL] at D0; cases D0
        have DF : D ≠ F := fun e => by rw [e, hF] at D0; cases D0
        have h1L : h1 ≠ L := fun e => by rw [e, hL] at n1; cases n1
        have h1F : h1 ≠ F := fun e => by rw [e, hF] at n1; cases n1
        have h2L : h2 ≠ L := fun e => by rw [e, hL] at n2; cases n2
        have h2F : h2 ≠ F := fun e => by rw [e, hF] at n2; cases n2
        have ac : Acc ks fs zs ys (rows.map (·.r)) pl (decide (word = "put")) := ⟨ok, by rw [ew]; rfl⟩
        refine ⟨t, _, rfl, .inr ⟨ac, x, f6.trans (Fr.same sn), m1, m2, ne, ex, hTx.same sn, ?_⟩, kD hD DL DF, kD hh1 h1L h1F, kD hh2 h2L h2F⟩
        unfold PutT
        rw [if_pos ok, ac.2]
        show upd H6 t _ t = some (.tup [.str "let", .int ((rows.map (·.r)).length : Int)])
        rw [upd_same, List.length_map]
      · rw [if_neg ok]
        intro B H6 hB s6
        cases hB.symm.trans T.n_BadRow
        refine ⟨true, T.m_BadRow_ElseputError, fun _ e ne => ?_, fun h => nomatch h⟩
        refine .inr ⟨_, _, _, true, rfl, rfl, rfl, T.x_BadRow.is, fun u h => h, T.k_BadRow_BadRow, ?_⟩
        refine .inr ⟨_, _, _, false, rfl, rfl, rfl, T.x_BadRow.is, fun u h => h, T.k_BadRow_Taken, ?_⟩
        refine .inr ⟨_, _, _, true, rfl, rfl, rfl, T.x_BadRow.is, fun u h => h, T.k_BadRow_ValueError, ?_⟩
        refine ⟨(by show 3 ≤ sizeLine; decide), fun t1 m1 => ?_⟩
        have s7 := s6.trans (same_new (o := .tup [.bl true, .bl false, .bl true]) m1)
        have k1 := upd_same (H := H6) (a := t1) (o := .tup [.bl true, .bl false, .bl true])
        generalize upd H6 t1 (.tup [.bl true, .bl false, .bl true]) = H7 at s7 k1 ⊢
        refine ⟨fun σ' H' => ∃ t, σ' = [some (.ref a), some (.str word), some (.ref p), some (.ref c), some (.ref D), some (.ref t), some (.ref e), some (.ref t1)] ∧ Same H7 H' ∧ H' t = some (.tup [.str "row"]), ?_, ?_⟩
        · refine ⟨(by show 3 ≤ sizeLine; decide), fun t2 m2 => ?_⟩
          have s8 := same_new (o := .tup [.bl true, .bl false, .bl true]) m2
          have k2 := upd_same (H := H7) (a := t2) (o := .tup [.bl true, .bl false, .bl true])
          have k1 := s8 _ _ k1
          generalize upd H7 t2 (.tup [.bl true, .bl false, .bl true]) = H8 at s8 k1 k2 ⊢
          refine ⟨_, _, .tup (SqT.of k1) (.cons (.bl _) (.cons (.bl _) (.cons (.bl _) .nil))), .tup (SqT.of k2) (.cons (.bl _) (.cons (.bl _) (.cons (.bl _) .nil))), rfl, rfl, ?_⟩
          refine ite2 (fun _ => ?_) (fun e => absurd (by decide +kernel) e)
          refine ⟨(by show 1 ≤ sizeLine; decide), fun t nt => ?_⟩
          exact ⟨t, rfl, s8.trans (same_new nt), upd_same⟩
        rintro σ' H9 ⟨t, rfl, s9, ht9⟩
        have s79 := s7.trans s9
        have k1 := s9 _ _ k1
        refine ⟨(by show 3 ≤ sizeLine; decide), fun t3 m3 => ?_⟩
        have s10 := same_new (o := .tup [.bl false, .bl true, .bl true]) m3
        have k3 := upd_same (H := H9) (a := t3) (o := .tup [.bl false, .bl true, .bl true])
        have k1 := s10 _ _ k1
        have ht9 := s10 _ _ ht9
        have s710 := s79.trans s10
        generalize upd H9 t3 (.tup [.bl false, .bl true, .bl true]) = HA at s710 k1 k3 ht9 ⊢
        refine ⟨_, _, .tup (SqT.of k1) (.cons (.bl _) (.cons (.bl _) (.cons (.bl _) .nil))), .tup (SqT.of k3) (.cons (.bl _) (.cons (.bl _) (.cons (.bl _) .nil))), rfl, rfl, ?_⟩
        refine ite2 (fun e => absurd e (by decide +kernel)) (fun _ => ?_)
        refine ⟨t, _, rfl, .inl ⟨fun ac => ok ac.1, s710, ?_⟩, s710 _ _ hD, s710 _ _ hh1, s710 _ _ hh2⟩
        unfold PutT
        rw [if_neg ok]
        exact ht9
  rintro σ' H6 ⟨t, y7, rfl, res, hD, hh1, hh2⟩
  have pL : p ≠ L := fun e => by have := hi.hp; rw [e, hL] at this; cases this
  have pF : p ≠ F := fun e => by have := hi.hp; rw [e, hF] at this; cases this
  have cL : c ≠ L := fun e => by have := hi.hc; rw [e, hL] at this; cases this
  have cF : c ≠ F := fun e => by have := hi.hc; rw [e, hF] at this; cases this
  have hpc : H6 p = some (.dK pl) ∧ H6 c = some (.dK ct) := by
    rcases res with ⟨_, s, _⟩ | ⟨_, x, f, _⟩
    · exact ⟨s _ _ (s4 _ _ hi.hp), s _ _ (s4 _ _ hi.hc)⟩
    · exact ⟨f _ _ (fun n => n.elim pL pF) (s4 _ _ hi.hp), f _ _ (fun n => n.elim cL cF) (s4 _ _ hi.hc)⟩
  refine ⟨(by show 2 ≤ sizeLine; decide), fun B nB => ?_⟩
  have s7 := same_new (o := .lst [.ref p, .ref c]) nB
  have hB := upd_same (H := H6) (a := B) (o := .lst [.ref p, .ref c])
  have hD7 := s7 _ _ hD
  have hh1 := s7 _ _ hh1
  have hh2 := s7 _ _ hh2
  have hpc := And.intro (s7 _ _ hpc.1) (s7 _ _ hpc.2)
  generalize upd H6 B (.lst [.ref p, .ref c]) = H7 at s7 hB hD7 hh1 hh2 hpc ⊢
  refine ⟨_, _, rfl, same_ref (n := 23) hD7 hB rfl (by show 2 ≤ 1000; decide) fun i y z hy hz => ?_, ?_⟩
  · match i, hy, hz with
    | 0, hy, hz => cases hy; cases hz; exact same_dk (n := 21) hh1 hpc.1 hi.pi
    | 1, hy, hz => cases hy; cases hz; exact same_dk (n := 21) hh2 hpc.2 cint
  refine ⟨_, .inl (SqL.of hD7), .ref h1, atI_nat (j := 0) rfl, .inr (.inr (.inl ⟨rfl, .inl ⟨_, hh1⟩⟩)), h1, _, rfl, rfl, hh1, ?_⟩
  have Dh1 : D ≠ h1 := fun e => by rw [e, hh1] at hD7; cases hD7
  have Dh2 : D ≠ h2 := fun e => by rw [e, hh2] at hD7; cases hD7
  have hD8 : upd H7 h1 (.dK []) D = some (.lst [.ref h1, .ref h2]) := by rw [upd_ne Dh1]; exact hD7
  have hh28 : upd H7 h1 (.dK []) h2 = some (.dK ct) := by rw [upd_ne h12.symm]; exact hh2
  refine ⟨_, .inl (SqL.of hD8), .ref h2, atI_nat (j := 1) rfl, .inr (.inr (.inl ⟨rfl, .inl ⟨_, hh28⟩⟩)), h2, _, rfl, rfl, hh28, ?_⟩
  have fN : Fr (fun b => b = h1 ∨ b = h2) H7 (upd (upd H7 h1 (.dK [])) h2 (.dK [])) := fun b o n hb => by
    rw [upd_ne (fun e => n (.inr e)), upd_ne (fun e => n (.inl e))]
    exact hb
  have muN : ∀ b, (b = h1 ∨ b = h2) → MutO (H7 b) := fun b hb => by
    rcases hb with rfl | rfl
    · rw [hh1]; trivial
    · rw [hh2]; trivial
  have tk : ∀ xs, H7 t = some (.tup xs) → upd (upd H7 h1 (.dK [])) h2 (.dK []) t = some (.tup xs) := fun xs h => fN _ _ (fun n => by
    rcases n with n | n
    · rw [n, hh1] at h; cases h
    · rw [n, hh2] at h; cases h) h
  generalize upd (upd H7 h1 (.dK [])) h2 (.dK []) = H8 at fN tk ⊢
  have old : ∀ {b o}, H b = some o → ¬ (b = h1 ∨ b = h2) := fun {b o} hb n => by
    rcases n with n | n
    · rw [n, n1] at hb; cases hb
    · rw [n, n2] at hb; cases hb
  rcases res with ⟨na, s, pt⟩ | ⟨ac, x, f, m1, m2, ne, ex, hTx, pt⟩
  · exact q1 H8 t (fun b o hb => fN _ _ (old hb) (s7 _ _ (s _ _ (s4 _ _ hb)))) na ((pt.keep fun xs h => s7 _ _ h).keep tk)
  · have fr : ∀ {b}, H4 b = none → H b = none := fun {b} hb => by
      cases e : H b with
      | none => rfl
      | some o => rw [s4 _ _ e] at hb; cases hb
    refine q2 H8 t x (fun b o n hb => fN _ _ (old hb) (s7 _ _ (f _ _ n (s4 _ _ hb)))) ac (fr m1) (fr m2) ne ex ((hTx.same s7).keep fN (fun b hb n => ?_) muN) ((pt.keep fun xs h => s7 _ _ h).keep tk)
    have no4 : ∀ {b}, H4 b = none → ¬ (b = h1 ∨ b = h2) := fun {b} hb n => by
      rcases n with n | n
      · rw [n, hh14] at hb; cases hb
      · rw [n, hh24] at hb; cases hb
    rcases List.mem_cons.mp hb with e | hb
    · exact old hL (e ▸ n)
    rcases List.mem_cons.mp hb with e | hb
    · exact old hF (e ▸ n)
    obtain ⟨y, hy, hb⟩ := List.mem_flatMap.mp hb
    rcases List.mem_append.mp hy with hy | hy
    · obtain ⟨j, hj, ej⟩ := List.getElem_of_mem hy
      obtain ⟨v, _, _, _, _, w2, w3⟩ := hrw.to (i := j) (a := y) (by rw [List.getElem?_eq_getElem hj, ej])
      rcases List.mem_cons.mp hb with e | hb
      · exact old w2 (e ▸ n)
      · exact old w3 (List.mem_singleton.mp hb ▸ n)
    · rw [List.mem_singleton.mp hy] at hb
      rcases List.mem_cons.mp hb with e | hb
      · exact no4 m1 (e ▸ n)
      · exact no4 m2 (List.mem_singleton.mp hb ▸ n)
end
section
variable {P : Program} {w : World} {K : PySem.W.Frag} {mg : Str → Option Value} {base : Heap}
variable {a_BadRow a_ElseputError a_NoRow a_Table a_Taken a_UnknownField a_UnknownKey a_UnknownName : Addr}
/-- a write refused -/
def WrT (H' : Hp) (t : Addr) (fs : List Str) (n : Nat) (i : Int) (f : Str) : Prop := if 0 ≤ i ∧ i < (n : Int) then if f ∈ fs then H' t = some (.tup [.str "let", .non]) else H' t = some (.tup [.str "field", .str f]) else H' t = some (.tup [.str "norow", .int i])
def sp__law_try_write (K : PySem.W.Frag) : Sp := fun vs H Q _ => ∃ (a L F : Addr) (ks fs : List Str) (rows : List Tr) (i n : Int) (f : Str), vs = [.ref a, .int i, .str f, .int n] ∧ TbAt K H a L F ks fs rows ∧ Nd rows ∧ i.natAbs < 2 ^ 200 ∧ f.length ≤ 1000 ∧ Asc f ∧ (∀ x ∈ rows, x.r.2.length ≤ 1000) ∧ (∀ (H' : Hp) (t : Addr), Same H H' → ¬ ((0 ≤ i ∧ i < (rows.length : Int)) ∧ f ∈ fs) → WrT H' t fs rows.length i f → Q (.ref t) H') ∧
  (∀ (j : Nat) (x : Tr), i = (j : Int) → rows[j]? = some x → f ∈ fs → ∀ (H' : Hp) (t : Addr), Bt x.c H H' → TbAt K H' a L F ks fs (rows.set j ⟨x.p, x.c, (x.r.1, putK x.r.2 (kS f) (.int n))⟩) → WrT H' t fs rows.length i f → Q (.ref t) H')
theorem len__law_try_write {vs : List V} {H : Hp} {Q : VK} {E : XK} (h : sp__law_try_write K vs H Q E) : vs.length = 4 := by
  obtain ⟨_, _, _, _, _, _, _, _, _, rfl, _⟩ := h
  rfl
theorem ok__law_try_write {f : Addr} {fd : FuncData} {f_Table_write : Addr} {fd_Table_write : FuncData} (F : Fun K "_law_try_write" "_law_try_write" s__law_try_write f fd) (T : Gs K mg a_BadRow a_ElseputError a_NoRow a_Table a_Taken a_UnknownField a_UnknownKey a_UnknownName) (c_Table_write : CalM P w K mg base (L2.CX P w) 4 a_Table "write" f_Table_write fd_Table_write ["self", "row", "field", "number"] (sp_Table_write K)) : FnOk P w K mg base CX0 5 f fd ["_law_table", "_law_row", "_law_field", "_law_number_here"] (sp__law_try_write K) := by
  refine F.ok sc__law_try_write (fun vs H Q E h => len__law_try_write h) (fun cdv A outer s H vs Q E hr h => ?_)
  obtain ⟨a, L, F, ks, fs, rows, i, n, f, rfl, hT, hnd, hi, fl, fa, cl, q1, q2⟩ := h
  refine ⟨_, (pss_cons (ps_try_as (i := 4) rfl rfl sc__law_try_write.nd rfl rfl ⟨rfl, by decide +kernel, .inl T.g_ElseputError⟩ takes0 (fun W pn xe tk po => (pss_one (ps_ret (pe_tup (pa_cons pe_str (pa_cons (pe_mcS (v_ 0) c_Table_write.cl c_Table_write.me c_Table_write.G (hr.mono (by first | decide | omega)) c_Table_write.b (fun σ => passAt tk σ) (pa_cons (v_ 1) (pa_cons (v_ 2) (pa_cons (v_ 3) pa_nil)))) pa_nil)))))) (fun ea oe ecls ed epn hz hf => (pss_cons (ps_set (i := 5) sc__law_try_write.nd rfl (.inl rfl) (pe_tup (pa_cons (pe_callB (call_isX hz hf) (by rfl) T.z_isinstance (by decide +kernel) (pa_cons (v_ 4) (pa_cons (pe_glob (v := .ref a_NoRow) rfl T.g_NoRow rfl) pa_nil))) (pa_cons (pe_callB (call_isX hz hf) (by rfl) T.z_isinstance (by decide +kernel) (pa_cons (v_ 4) (pa_cons (pe_glob (v := .ref a_UnknownField) rfl T.g_UnknownField rfl) pa_nil))) (pa_cons (pe_callB (call_isX hz hf) (by rfl) T.z_isinstance (by decide +kernel) (pa_cons (v_ 4) (pa_cons (pe_glob (v := .ref a_UnknownKey) rfl T.g_UnknownKey rfl) pa_nil))) (pa_cons (pe_callB (call_isX hz hf) (by rfl) T.z_isinstance (by decide +kernel) (pa_cons (v_ 4) (pa_cons (pe_bltn (v := .ty "ValueError") (u := .type "ValueError") (by rfl) T.z_ValueError (by decide +kernel) rfl) pa_nil))) pa_nil)))))) (pss_cons (ps_if (pt_c (eqK K hr.units) (v_ 5) (pe_tup (pa_cons pe_bl (pa_cons pe_bl (pa_cons pe_bl (pa_cons pe_bl pa_nil)))))) (pss_one (ps_ret (pe_tup (pa_cons pe_str (pa_cons (pe_xf T.x_NoRow.xf (T.x_NoRow.no _ (by decide)) hz hf (v_ 4)) pa_nil))))) pss_nil) (pss_one (ps_if (pt_c (eqK K hr.units) (v_ 5) (pe_tup (pa_cons pe_bl (pa_cons pe_bl (pa_cons pe_bl (pa_cons pe_bl pa_nil)))))) (pss_one (ps_ret (pe_tup (pa_cons pe_str (pa_cons (pe_xf T.x_UnknownField.xf (T.x_UnknownField.no _ (by decide)) hz hf (v_ 4)) pa_nil))))) pss_nil)))))) (pss_one (ps_ret (pe_tup (pa_cons pe_str pa_nil))))), ?_⟩
  obtain ⟨C, dx, _, _, _, _, hC, ha, _⟩ := id hT
  cases hC.symm.trans T.n_Table
  refine ⟨a, dx, _, rfl, ha, rfl, a, L, F, ks, fs, rows, i, n, f, rfl, hT, hnd, hi, fl, fa, cl, fun j x ej ex m H' b hT' => ?_, fun nc => ?_, fun ic nf => ?_⟩
  · refine ⟨(by show 2 ≤ sizeLine; decide), fun t nt => ?_⟩
    have sn := same_new (o := .tup [.str "let", .non]) nt
    refine q2 j x ej ex m _ t (b.trans (Bt.same sn)) (hT'.same sn) ?_
    have jl := (List.getElem?_eq_some_iff.mp ex).1
    unfold WrT
    rw [if_pos (by omega), if_pos m]
    exact upd_same
  · intro B d2 H6 hB s6 nd2 hd2
    cases hB.symm.trans T.n_NoRow
    refine ⟨true, T.m_NoRow_ElseputError, fun _ e ne => ?_, fun h => nomatch h⟩
    refine ⟨_, d2, _, _, _, true, rfl, rfl, rfl, hd2, T.x_NoRow.is, fun u h => h, T.k_NoRow_NoRow, ?_⟩
    refine ⟨_, d2, _, _, _, false, rfl, rfl, rfl, hd2, T.x_NoRow.is, fun u h => h, T.k_NoRow_UnknownField, ?_⟩
    refine ⟨_, d2, _, _, _, false, rfl, rfl, rfl, hd2, T.x_NoRow.is, fun u h => h, T.k_NoRow_UnknownKey, ?_⟩
    refine ⟨_, d2, _, _, _, true, rfl, rfl, rfl, hd2, T.x_NoRow.is, fun u h => h, T.k_NoRow_ValueError, ?_⟩
    refine ⟨(by show 4 ≤ sizeLine; decide), fun t1 m1 => ?_⟩
    have s7 := s6.trans (same_new (o := .tup [.bl true, .bl false, .bl false, .bl true]) m1)
    have k1 := upd_same (H := H6) (a := t1) (o := .tup [.bl true, .bl false, .bl false, .bl true])
    have hd2 := same_new (o := .tup [.bl true, .bl false, .bl false, .bl true]) m1 _ _ hd2
    generalize upd H6 t1 (.tup [.bl true, .bl false, .bl false, .bl true]) = H7 at s7 k1 hd2 ⊢
    refine ⟨(by show 4 ≤ sizeLine; decide), fun t2 m2 => ?_⟩
    have s8 := same_new (o := .tup [.bl true, .bl false, .bl false, .bl true]) m2
    have k2 := upd_same (H := H7) (a := t2) (o := .tup [.bl true, .bl false, .bl false, .bl true])
    have k1 := s8 _ _ k1
    have hd2 := s8 _ _ hd2
    have s7 := s7.trans s8
    generalize upd H7 t2 (.tup [.bl true, .bl false, .bl false, .bl true]) = H7 at s7 k1 k2 hd2 ⊢
    clear s8 m2
    refine ⟨_, _, .tup (SqT.of k1) (.cons (.bl _) (.cons (.bl _) (.cons (.bl _) (.cons (.bl _) .nil)))), .tup (SqT.of k2) (.cons (.bl _) (.cons (.bl _) (.cons (.bl _) (.cons (.bl _) .nil)))), rfl, rfl, ?_⟩
    refine ite2 (fun _ => ?_) (fun e => absurd (by decide +kernel) e)
    refine ⟨rfl, rfl, d2, _, _, rfl, hd2, rfl, (by show 2 ≤ sizeLine; decide), fun t nt => ?_⟩
    refine q1 _ t (s7.trans (same_new nt)) (fun h => nc h.1) ?_
    unfold WrT
    rw [if_neg nc]
    exact upd_same
  · intro B d2 H6 hB s6 nd2 hd2
    cases hB.symm.trans T.n_UnknownField
    refine ⟨true, T.m_UnknownField_ElseputError, fun _ e ne => ?_, fun h => nomatch h⟩
    refine ⟨_, d2, _, _, _, false, rfl, rfl, rfl, hd2, T.x_UnknownField.is, fun u h => h, T.k_UnknownField_NoRow, ?_⟩
    refine ⟨_, d2, _, _, _, true, rfl, rfl, rfl, hd2, T.x_UnknownField.is, fun u h => h, T.k_UnknownField_UnknownField, ?_⟩
    refine ⟨_, d2, _, _, _, false, rfl, rfl, rfl, hd2, T.x_UnknownField.is, fun u h => h, T.k_UnknownField_UnknownKey, ?_⟩
    refine ⟨_, d2, _, _, _, true, rfl, rfl, rfl, hd2, T.x_UnknownField.is, fun u h => h, T.k_UnknownField_ValueError, ?_⟩
    refine ⟨(by show 4 ≤ sizeLine; decide), fun t1 m1 => ?_⟩
    have s7 := s6.trans (same_new (o := .tup [.bl false, .bl true, .bl false, .bl true]) m1)
    have k1 := upd_same (H := H6) (a := t1) (o := .tup [.bl false, .bl true, .bl false, .bl true])
    have hd2 := same_new (o := .tup [.bl false, .bl true, .bl false, .bl true]) m1 _ _ hd2
    generalize upd H6 t1 (.tup [.bl false, .bl true, .bl false, .bl true]) = H7 at s7 k1 hd2 ⊢
    refine ⟨(by show 4 ≤ sizeLine; decide), fun t2 m2 => ?_⟩
    have s8 := same_new (o := .tup [.bl true, .bl false, .bl false, .bl true]) m2
    have k2 := upd_same (H := H7) (a := t2) (o := .tup [.bl true, .bl false, .bl false, .bl true])
    have k1 := s8 _ _ k1
    have hd2 := s8 _ _ hd2
    have s7 := s7.trans s8
    generalize upd H7 t2 (.tup [.bl true, .bl false, .bl false, .bl true]) = H7 at s7 k1 k2 hd2 ⊢
    clear s8 m2
    refine ⟨_, _, .tup (SqT.of k1) (.cons (.bl _) (.cons (.bl _) (.cons (.bl _) (.cons (.bl _) .nil)))), .tup (SqT.of k2) (.cons (.bl _) (.cons (.bl _) (.cons (.bl _) (.cons (.bl _) .nil)))), rfl, rfl, ?_⟩
    refine ite2 (fun e => absurd e (by decide +kernel)) (fun _ => ?_)
    refine ⟨(by show 4 ≤ sizeLine; decide), fun t2 m2 => ?_⟩
    have s8 := same_new (o := .tup [.bl false, .bl true, .bl false, .bl true]) m2
    have k2 := upd_same (H := H7) (a := t2) (o := .tup [.bl false, .bl true, .bl false, .bl true])
    have k1 := s8 _ _ k1
    have hd2 := s8 _ _ hd2
    have s7 := s7.trans s8
    generalize upd H7 t2 (.tup [.bl false, .bl true, .bl false, .bl true]) = H7 at s7 k1 k2 hd2 ⊢
    clear s8 m2
    refine ⟨_, _, .tup (SqT.of k1) (.cons (.bl _) (.cons (.bl _) (.cons (.bl _) (.cons (.bl _) .nil)))), .tup (SqT.of k2) (.cons (.bl _) (.cons (.bl _) (.cons (.bl _) (.cons (.bl _) .nil)))), rfl, rfl, ?_⟩
    refine ite2 (fun _ => ?_) (fun e => absurd (by decide +kernel) e)
    refine ⟨rfl, rfl, d2, _, _, rfl, hd2, rfl, (by show 2 ≤ sizeLine; decide), fun t nt => ?_⟩
    refine q1 _ t (s7.trans (same_new nt)) (fun h => nf h.2) ?_
    unfold WrT
    rw [if_pos ic, if_neg nf]
    exact upd_same
def CtT (H' : Hp) (t : Addr) (rows : List Tr) (i : Int) : Prop := (∀ (j : Nat) (x : Tr), i = (j : Int) → rows[j]? = some x → ∃ (d l : Addr), H' t = some (.tup [.str "let", .ref d, .ref l]) ∧ H' d = some (.dK x.r.2) ∧ H' l = some (.lst (x.r.2.map fun q => kV q.1))) ∧ (¬ (0 ≤ i ∧ i < (rows.length : Int)) → H' t = some (.tup [.str "norow", .int i]))
def sp__law_content_told (K : PySem.W.Frag) : Sp := fun vs H Q _ => ∃ (a L F : Addr) (ks fs : List Str) (rows : List Tr) (i : Int), vs = [.ref a, .int i] ∧ TbAt K H a L F ks fs rows ∧ i.natAbs < 2 ^ 200 ∧ (∀ x ∈ rows, x.r.2.length ≤ 1000) ∧ ∀ (H' : Hp) (t : Addr), Same H H' → CtT H' t rows i → Q (.ref t) H'
theorem len__law_content_told {vs : List V} {H : Hp} {Q : VK} {E : XK} (h : sp__law_content_told K vs H Q E) : vs.length = 2 := by
  obtain ⟨_, _, _, _, _, _, _, rfl, _⟩ := h
  rfl
theorem ok__law_content_told {f : Addr} {fd : FuncData} {f_Table_content_of : Addr} {fd_Table_content_of : FuncData} (F : Fun K "_law_content_told" "_law_content_told" s__law_content_told f fd) (T : Gs K mg a_BadRow a_ElseputError a_NoRow a_Table a_Taken a_UnknownField a_UnknownKey a_UnknownName) (c_Table_content_of : CalM P w K mg base (L2.CX P w) 4 a_Table "content_of" f_Table_content_of fd_Table_content_of ["self", "row"] (sp_Table_content_of K)) : FnOk P w K mg base CX0 5 f fd ["_law_table", "_law_row"] (sp__law_content_told K) := by
  refine F.ok sc__law_content_told (fun vs H Q E h => len__law_content_told h) (fun cdv A outer s H vs Q E hr h => ?_)
  obtain ⟨a, L, F, ks, fs, rows, i, rfl, hT, hi, cl, q⟩ := h
  refine ⟨_, (pss_cons (ps_try_as (i := 2) rfl rfl sc__law_content_told.nd rfl rfl ⟨rfl, by decide +kernel, .inl T.g_ElseputError⟩ takes0 (fun W pn xe tk po => (pss_one (ps_set (i := 4) sc__law_content_told.nd rfl (.inl rfl) (pe_mcS (v_ 0) c_Table_content_of.cl c_Table_content_of.me c_Table_content_of.G (hr.mono (by first | decide | omega)) c_Table_content_of.b (fun σ => passAt tk σ) (pa_cons (v_ 1) pa_nil))))) (fun ea oe ecls ed epn hz hf => (pss_cons (ps_if (PW.pt (pw_and (pt_t K (pe_callB (call_isX hz hf) (by rfl) T.z_isinstance (by decide +kernel) (pa_cons (v_ 2) (pa_cons (pe_glob (v := .ref a_NoRow) rfl T.g_NoRow rfl) pa_nil)))) (pw_and (pt_t K (pe_callB (call_isX hz hf) (by rfl) T.z_isinstance (by decide +kernel) (pa_cons (v_ 2) (pa_cons (pe_bltn (v := .ty "ValueError") (u := .type "ValueError") (by rfl) T.z_ValueError (by decide +kernel) rfl) pa_nil)))) (pw_and1 (pt_not (pt_t K (pe_callB (call_isX hz hf) (by rfl) T.z_isinstance (by decide +kernel) (pa_cons (v_ 2) (pa_cons (pe_glob (v := .ref a_BadRow) rfl T.g_BadRow rfl) pa_nil))))))))) (pss_one (ps_ret (pe_tup (pa_cons pe_str (pa_cons (pe_xf T.x_NoRow.xf (T.x_NoRow.no _ (by decide)) hz hf (v_ 2)) pa_nil))))) pss_nil) (pss_one (ps_ret (pe_tup (pa_cons pe_str pa_nil))))))) (pss_cons (ps_if (pt_not (pt_t K (pe_callB (isiK K) (by rfl) T.z_isinstance (by decide +kernel) (pa_cons (v_ 4) (pa_cons (pe_bltn (v := .ty "dict") (u := .type "dict") (by rfl) T.z_dict (by decide +kernel) rfl) pa_nil))))) (pss_one (ps_ret (pe_tup (pa_cons pe_str pa_nil)))) pss_nil) (pss_cons (ps_set (i := 3) sc__law_content_told.nd rfl (.inl rfl) (pe_callTy call_dictD (by rfl) T.z_dict (by decide +kernel) (pa_cons (v_ 4) pa_nil))) (pss_cons (ps_expr (pe_dclear (v_ 4))) (pss_one (ps_ret (pe_tup (pa_cons pe_str (pa_cons (v_ 3) (pa_cons (pe_callTy (call_list_dK rfl) (by rfl) T.z_list (by decide +kernel) (pa_cons (v_ 3) pa_nil)) pa_nil)))))))))), ?_⟩
  obtain ⟨C, dx, _, _, _, _, hC, ha, _⟩ := id hT
  cases hC.symm.trans T.n_Table
  refine ⟨a, dx, _, rfl, ha, rfl, a, L, F, ks, fs, rows, i, rfl, hT, hi, fun j x ej ex H1 d s1 nd hd => ?_, fun nc => ?_⟩
  · refine ⟨_, _, _, _, true, rfl, .ty _, .base (.dK hd), kit_ty (by decide +kernel), ?_⟩
    refine ⟨d, _, rfl, .inl hd, fun d2 nd2 => ?_⟩
    have s2 := same_new (o := .dK x.r.2) nd2
    have hd2 := upd_same (H := H1) (a := d2) (o := .dK x.r.2)
    have hd := s2 _ _ hd
    have s2 := s1.trans s2
    have ne2 : d2 ≠ d := fun e => by
      rw [e] at nd2
      rw [show H1 d = some (.dK x.r.2) by assumption] at nd2
      cases nd2
    generalize upd H1 d2 (.dK x.r.2) = H2 at s2 hd2 hd ⊢
    refine ⟨.inr (.inr (.inl ⟨rfl, .inl ⟨_, hd⟩⟩)), d, _, rfl, rfl, hd, ?_⟩
    have s3 : Same H (upd H2 d (.dK [])) := fun b o hb => by rw [upd_ne (ne_of_none hb nd)]; exact s2 _ _ hb
    have hd3 : upd H2 d (.dK []) d2 = some (.dK x.r.2) := by rw [upd_ne ne2]; exact hd2
    generalize upd H2 d (.dK []) = H3 at s3 hd3 ⊢
    refine ⟨d2, _, rfl, hd3, fun l nl => ?_⟩
    have s4 := same_new (o := .lst (x.r.2.map fun kv => kV kv.1)) nl
    have hl := upd_same (H := H3) (a := l) (o := .lst (x.r.2.map fun kv => kV kv.1))
    have hd4 := s4 _ _ hd3
    have s4 := s3.trans s4
    generalize upd H3 l (.lst (x.r.2.map fun kv => kV kv.1)) = H4 at s4 hl hd4 ⊢
    refine ⟨(by show 3 ≤ sizeLine; decide), fun t nt => ?_⟩
    have s5 := same_new (o := .tup [.str "let", .ref d2, .ref l]) nt
    have jl := (List.getElem?_eq_some_iff.mp ex).1
    refine q _ t (s4.trans s5) ⟨fun j' x' ej' ex' => ?_, fun nc => absurd (show 0 ≤ i ∧ i < (rows.length : Int) by omega) nc⟩
    have : j' = j := by omega
    subst this
    cases ex.symm.trans ex'
    exact ⟨d2, l, upd_same, s5 _ _ hd4, s5 _ _ hl⟩
  · intro B d2 H6 hB s6 nd2 hd2
    cases hB.symm.trans T.n_NoRow
    refine ⟨true, T.m_NoRow_ElseputError, fun _ e ne => ?_, fun h => nomatch h⟩
    refine ⟨_, d2, _, _, _, true, rfl, rfl, rfl, hd2, T.x_NoRow.is, fun u h => h, T.k_NoRow_NoRow, ?_⟩
    refine ⟨_, d2, _, _, _, true, rfl, rfl, rfl, hd2, T.x_NoRow.is, fun u h => h, T.k_NoRow_ValueError, ?_⟩
    refine ⟨_, d2, _, _, _, false, rfl, rfl, rfl, hd2, T.x_NoRow.is, fun u h => h, T.k_NoRow_BadRow, ?_⟩
    refine ⟨rfl, rfl, d2, _, _, rfl, hd2, rfl, (by show 2 ≤ sizeLine; decide), fun t nt => ?_⟩
    refine q _ t (s6.trans (same_new nt)) ⟨fun j x ej ex => ?_, fun _ => upd_same⟩
    have jl := (List.getElem?_eq_some_iff.mp ex).1
    exact absurd (show 0 ≤ i ∧ i < (rows.length : Int) by omega) nc
def FiT (H' : Hp) (t : Addr) (ks : List Str) (R : List TRow) (k : Str) (v : Int) : Prop := if k ∈ ks then H' t = some (.tup [.str "let", rowV (firstAt R k v)]) else H' t = some (.tup [.str "unknown", .str k])
def sp__law_find (K : PySem.W.Frag) : Sp := fun vs H Q _ => ∃ (a L F : Addr) (ks fs : List Str) (rows : List Tr) (k : Str) (v : Int), vs = [.ref a, .str k, .int v] ∧ TbAt K H a L F ks fs rows ∧ k.length ≤ 1000 ∧ Asc k ∧ ∀ (H' : Hp) (t : Addr), Same H H' → FiT H' t ks (rows.map (·.r)) k v → Q (.ref t) H'
theorem len__law_find {vs : List V} {H : Hp} {Q : VK} {E : XK} (h : sp__law_find K vs H Q E) : vs.length = 3 := by
  obtain ⟨_, _, _, _, _, _, _, _, rfl, _⟩ := h
  rfl
theorem ok__law_find {f : Addr} {fd : FuncData} {f_Table___getitem__ : Addr} {fd_Table___getitem__ : FuncData} (F : Fun K "_law_find" "_law_find" s__law_find f fd) (T : Gs K mg a_BadRow a_ElseputError a_NoRow a_Table a_Taken a_UnknownField a_UnknownKey a_UnknownName) (c_Table___getitem__ : CalSub P w K mg base (L2.CX P w) 3 a_Table f_Table___getitem__ fd_Table___getitem__ ["self", "place"] (sp_Table___getitem__ K)) : FnOk P w K mg base CX0 5 f fd ["_law_table", "_law_key", "_law_value"] (sp__law_find K) := by
  refine F.ok sc__law_find (fun vs H Q E h => len__law_find h) (fun cdv A outer s H vs Q E hr h => ?_)
  obtain ⟨a, L, F, ks, fs, rows, k, v, rfl, hT, kl, ka, q⟩ := h
  refine ⟨_, (pss_cons (ps_try_as (i := 3) rfl rfl sc__law_find.nd rfl rfl ⟨rfl, by decide +kernel, .inl T.g_ElseputError⟩ takes0 (fun W pn xe tk po => (pss_one (ps_ret (pe_tup (pa_cons pe_str (pa_cons (pe_itS c_Table___getitem__.su c_Table___getitem__.G (hr.mono (by first | decide | omega)) c_Table___getitem__.b (fun σ => passAt tk σ) (v_ 0) (pe_tup (pa_cons (v_ 1) (pa_cons (v_ 2) pa_nil)))) pa_nil)))))) (fun ea oe ecls ed epn hz hf => (pss_one (ps_if (PW.pt (pw_and (pt_t K (pe_callB (call_isX hz hf) (by rfl) T.z_isinstance (by decide +kernel) (pa_cons (v_ 3) (pa_cons (pe_glob (v := .ref a_UnknownKey) rfl T.g_UnknownKey rfl) pa_nil)))) (pw_and (pt_t K (pe_callB (call_isX hz hf) (by rfl) T.z_isinstance (by decide +kernel) (pa_cons (v_ 3) (pa_cons (pe_glob (v := .ref a_UnknownName) rfl T.g_UnknownName rfl) pa_nil)))) (pw_and1 (pt_not (pt_t K (pe_callB (call_isX hz hf) (by rfl) T.z_isinstance (by decide +kernel) (pa_cons (v_ 3) (pa_cons (pe_glob (v := .ref a_UnknownField) rfl T.g_UnknownField rfl) pa_nil))))))))) (pss_one (ps_ret (pe_tup (pa_cons pe_str (pa_cons (pe_xf T.x_UnknownKey.xf (T.x_UnknownKey.no _ (by decide)) hz hf (v_ 3)) pa_nil))))) pss_nil)))) (pss_one (ps_ret (pe_tup (pa_cons pe_str pa_nil))))), ?_⟩
  obtain ⟨C, dx, _, _, _, _, hC, ha, _⟩ := id hT
  cases hC.symm.trans T.n_Table
  refine ⟨(by show 2 ≤ sizeLine; decide), fun b nb => ?_⟩
  have sb := same_new (o := .tup [.str k, .int v]) nb
  have hb := upd_same (H := H) (a := b) (o := .tup [.str k, .int v])
  generalize upd H b (.tup [.str k, .int v]) = H1 at sb hb ⊢
  refine ⟨a, dx, _, rfl, sb _ _ ha, a, L, F, b, ks, fs, rows, k, v, rfl, hb, hT.same sb, kl, ka, ?_⟩
  by_cases m : k ∈ ks
  · rw [if_pos m]
    intro H2 s2
    refine ⟨(by show 2 ≤ sizeLine; decide), fun t nt => ?_⟩
    refine q _ t ((sb.trans s2).trans (same_new nt)) ?_
    unfold FiT
    rw [if_pos m]
    exact upd_same
  · rw [if_neg m]
    intro B d2 H6 hB s6 nd2 hd2
    cases hB.symm.trans T.n_UnknownKey
    refine ⟨true, T.m_UnknownKey_ElseputError, fun _ e ne => ?_, fun h => nomatch h⟩
    refine ⟨_, d2, _, _, _, true, rfl, rfl, rfl, hd2, T.x_UnknownKey.is, fun u h => h, T.k_UnknownKey_UnknownKey, ?_⟩
    refine ⟨_, d2, _, _, _, true, rfl, rfl, rfl, hd2, T.x_UnknownKey.is, fun u h => h, T.k_UnknownKey_UnknownName, ?_⟩
    refine ⟨_, d2, _, _, _, false, rfl, rfl, rfl, hd2, T.x_UnknownKey.is, fun u h => h, T.k_UnknownKey_UnknownField, ?_⟩
    refine ⟨rfl, rfl, d2, _, _, rfl, hd2, rfl, (by show 2 ≤ sizeLine; decide), fun t nt => ?_⟩
    refine q _ t ((sb.trans s6).trans (same_new nt)) ?_
    unfold FiT
    rw [if_neg m]
    exact upd_same
end
section
variable {P : Program} {w : World} {K : PySem.W.Frag} {mg : Str → Option Value} {base : Heap}
variable {a_BadRow a_ElseputError a_NoRow a_Table a_Taken a_UnknownField a_UnknownKey a_UnknownName : Addr}
def dicts (rs : List Tr) : List Addr := rs.flatMap fun x => [x.p, x.c]
theorem mem_dicts {b : Addr} {rs : List Tr} : b ∈ dicts rs ↔ ∃ x ∈ rs, b = x.p ∨ b = x.c := by
  unfold dicts
  rw [List.mem_flatMap]
  constructor
  · rintro ⟨x, hx, h⟩
    exact ⟨x, hx, by simpa using h⟩
  · rintro ⟨x, hx, h⟩
    exact ⟨x, hx, by simpa using h⟩
theorem mem_fpT {b L F : Addr} {rows : List Tr} : b ∈ fpT L F rows ↔ b = L ∨ b = F ∨ b ∈ dicts rows := by
  show b ∈ L :: F :: dicts rows ↔ _
  rw [List.mem_cons, List.mem_cons]
/-- the law's own rows -/
def RwAt (H : Hp) (R : Addr) (rs : List Tr) : Prop := ∃ ws, H R = some (.lst ws) ∧ All2 (RowAt H) ws rs
/-- a table and the rows that it is due to have -/
structure Pr (K : PySem.W.Frag) (H : Hp) (a L F R : Addr) (ks fs : List Str) (rows rs : List Tr) : Prop where
  T : TbAt K H a L F ks fs rows
  wr : RwAt H R rs
  e : rs.map (·.r) = rows.map (·.r)
  nd : Nd rows
  ok : TbOk ks fs (rows.map (·.r))
  RL : R ≠ L
  dj : ∀ b ∈ dicts rs, b ∉ fpT L F rows
def mutS (L F R : Addr) (rows : List Tr) (b : Addr) : Prop := b = R ∨ b ∈ fpT L F rows
def useS (L F R : Addr) (rows rs : List Tr) : List Addr := R :: (fpT L F rows ++ dicts rs)
theorem mem_useS {L F R b : Addr} {rows rs : List Tr} : b ∈ useS L F R rows rs ↔ mutS L F R rows b ∨ b ∈ dicts rs := by
  unfold useS mutS
  rw [List.mem_cons, List.mem_append, or_assoc]
def Apart (L F R : Addr) (rows : List Tr) (L' F' R' : Addr) (rows' rs' : List Tr) : Prop := ∀ b, mutS L F R rows b → b ∉ useS L' F' R' rows' rs'
theorem rows_dict {H : Hp} {vs : List V} {rows : List Tr} (h : All2 (RowAt H) vs rows) {b : Addr} (hb : b ∈ dicts rows) : ∃ l, H b = some (.dK l) := by
  obtain ⟨x, hx, hb⟩ := mem_dicts.mp hb
  obtain ⟨j, hj, ej⟩ := List.getElem_of_mem hx
  obtain ⟨v, _, _, _, _, w2, w3⟩ := h.to (i := j) (a := x) (by rw [List.getElem?_eq_getElem hj, ej])
  rcases hb with rfl | rfl
  · exact ⟨_, w2⟩
  · exact ⟨_, w3⟩
theorem Pr.kind {K : PySem.W.Frag} {H : Hp} {a L F R : Addr} {ks fs : List Str} {rows rs : List Tr} (h : Pr K H a L F R ks fs rows rs) {b : Addr} (hb : mutS L F R rows b) : (∃ l, H b = some (.lst l)) ∨ (∃ l, H b = some (.dT l)) ∨ ∃ l, H b = some (.dK l) := by
  obtain ⟨C, dx, t, u, vs, kvs, _, _, _, _, h5, h6, h7, _⟩ := h.T
  obtain ⟨ws, h8, _⟩ := h.wr
  rcases hb with rfl | hb
  · exact .inl ⟨_, h8⟩
  rcases mem_fpT.mp hb with rfl | rfl | hb
  · exact .inl ⟨_, h5⟩
  · exact .inr (.inl ⟨_, h7⟩)
  · exact .inr (.inr (rows_dict h6 hb))
theorem Pr.mu {K : PySem.W.Frag} {H : Hp} {a L F R : Addr} {ks fs : List Str} {rows rs : List Tr} (h : Pr K H a L F R ks fs rows rs) (b : Addr) (hb : mutS L F R rows b) : MutO (H b) := by
  rcases h.kind hb with ⟨_, e⟩ | ⟨_, e⟩ | ⟨_, e⟩ <;> rw [e] <;> trivial
theorem Pr.got {K : PySem.W.Frag} {H : Hp} {a L F R : Addr} {ks fs : List Str} {rows rs : List Tr} (h : Pr K H a L F R ks fs rows rs) {b : Addr} (hb : b ∈ useS L F R rows rs) : ¬ H b = none := fun n => by
  rcases mem_useS.mp hb with hb | hb
  · rcases h.kind hb with ⟨_, e⟩ | ⟨_, e⟩ | ⟨_, e⟩ <;> rw [n] at e <;> cases e
  · obtain ⟨ws, _, h9⟩ := h.wr
    obtain ⟨_, e⟩ := rows_dict h9 hb
    rw [n] at e
    cases e
theorem rows_keep {N : Addr → Prop} {H H' : Hp} {vs : List V} {rs : List Tr} (h : All2 (RowAt H) vs rs) (f : Fr N H H') (no : ∀ b ∈ dicts rs, ¬ N b) (mu : ∀ b, N b → MutO (H b)) : All2 (RowAt H') vs rs := by
  induction h with
  | nil => exact .nil
  | cons a b ih => exact .cons (a.keep f (no _ (mem_dicts.mpr ⟨_, List.mem_cons_self, .inl rfl⟩)) (no _ (mem_dicts.mpr ⟨_, List.mem_cons_self, .inr rfl⟩)) mu) (ih fun c hc => no c (by
      obtain ⟨x, hx, h⟩ := mem_dicts.mp hc
      exact mem_dicts.mpr ⟨x, List.mem_cons_of_mem _ hx, h⟩))
theorem Pr.keep {K : PySem.W.Frag} {N : Addr → Prop} {H H' : Hp} {a L F R : Addr} {ks fs : List Str} {rows rs : List Tr} (h : Pr K H a L F R ks fs rows rs) (f : Fr N H H') (no : ∀ b ∈ useS L F R rows rs, ¬ N b) (mu : ∀ b, N b → MutO (H b)) : Pr K H' a L F R ks fs rows rs := by
  refine ⟨h.T.keep f (fun b hb => no b (mem_useS.mpr (.inl (.inr hb)))) mu, ?_, h.e, h.nd, h.ok, h.RL, h.dj⟩
  obtain ⟨ws, h8, h9⟩ := h.wr
  exact ⟨ws, f _ _ (no _ (mem_useS.mpr (.inl (.inl rfl)))) h8, rows_keep h9 f (fun b hb => no b (mem_useS.mpr (.inr hb))) mu⟩
theorem Pr.same {K : PySem.W.Frag} {H H' : Hp} {a L F R : Addr} {ks fs : List Str} {rows rs : List Tr} (h : Pr K H a L F R ks fs rows rs) (s : Same H H') : Pr K H' a L F R ks fs rows rs := h.keep (N := fun _ => False) (Fr.same s) (fun _ _ n => n) (fun _ n => n.elim)
/-- what a deed did -/
structure Go (K : PySem.W.Frag) (H H' : Hp) (a L F R : Addr) (ks fs : List Str) (rows rs rows' rs' : List Tr) : Prop where
  f : Fr (mutS L F R rows) H H'
  P : Pr K H' a L F R ks fs rows' rs'
  m : ∀ b, mutS L F R rows' b → mutS L F R rows b ∨ H b = none
  u : ∀ b ∈ useS L F R rows' rs', b ∈ useS L F R rows rs ∨ H b = none
  l : ∀ c, H' c = none → H c = none
theorem Go.same {K : PySem.W.Frag} {H H' : Hp} {a L F R : Addr} {ks fs : List Str} {rows rs : List Tr} (h : Pr K H a L F R ks fs rows rs) (s : Same H H') : Go K H H' a L F R ks fs rows rs rows rs := ⟨Fr.same s, h.same s, fun _ h => .inl h, fun _ h => .inl h, fun _ h => Same.free s h⟩
theorem Go.trans {K : PySem.W.Frag} {H H' H2 : Hp} {a L F R : Addr} {ks fs : List Str} {rows rs rows' rs' rows2 rs2 : List Tr} (g : Go K H H' a L F R ks fs rows rs rows' rs') (k : Go K H' H2 a L F R ks fs rows' rs' rows2 rs2) : Go K H H2 a L F R ks fs rows rs rows2 rs2 := by
  refine ⟨fun c o n hc => ?_, k.P, fun c hc => ?_, fun c hc => ?_, fun c hc => g.l c (k.l c hc)⟩
  · exact k.f c o (fun m => (g.m c m).elim n fun e => by rw [e] at hc; cases hc) (g.f c o n hc)
  · exact (k.m c hc).elim (g.m c) fun e => .inr (g.l c e)
  · exact (k.u c hc).elim (g.u c) fun e => .inr (g.l c e)
theorem Apart.go1 {K : PySem.W.Frag} {H H' : Hp} {a L F R a2 L2 F2 R2 : Addr} {ks fs : List Str} {rows rs rows' rs' rows2 rs2 : List Tr} (h : Apart L F R rows L2 F2 R2 rows2 rs2) (g : Go K H H' a L F R ks fs rows rs rows' rs') (p2 : Pr K H a2 L2 F2 R2 ks fs rows2 rs2) : Apart L F R rows' L2 F2 R2 rows2 rs2 := fun b m u => (g.m b m).elim (fun m => h b m u) (p2.got u)
theorem Apart.go2 {K : PySem.W.Frag} {H H' : Hp} {a L F R a2 L2 F2 R2 : Addr} {ks fs : List Str} {rows rs rows' rs' rows2 rs2 : List Tr} (h : Apart L2 F2 R2 rows2 L F R rows rs) (g : Go K H H' a L F R ks fs rows rs rows' rs') (p2 : Pr K H a2 L2 F2 R2 ks fs rows2 rs2) : Apart L2 F2 R2 rows2 L F R rows' rs' := fun b m u => (g.u b u).elim (fun u => h b m u) (p2.got (mem_useS.mpr (.inl m)))
theorem Pr.go {K : PySem.W.Frag} {H H' : Hp} {a L F R a2 L2 F2 R2 : Addr} {ks fs : List Str} {rows rs rows' rs' rows2 rs2 : List Tr} (p2 : Pr K H a2 L2 F2 R2 ks fs rows2 rs2) (p1 : Pr K H a L F R ks fs rows rs) (h : Apart L F R rows L2 F2 R2 rows2 rs2) (g : Go K H H' a L F R ks fs rows rs rows' rs') : Pr K H' a2 L2 F2 R2 ks fs rows2 rs2 := p2.keep g.f (fun b hb m => h b m hb) p1.mu
/-! ### rows told -/
theorem same_keys {H : Hp} {t u : Addr} {l m : Kvs} {n : Nat} (h1 : H t = some (.lst (l.map fun kv => kV kv.1))) (h2 : H u = some (.lst (m.map fun kv => kV kv.1))) (e : l = m) (hl : m.length ≤ 1000) : SameV K H (n + 2) (.ref t) (.ref u) := by
  subst e
  refine same_ref h1 h2 rfl (by rw [List.length_map]; exact hl) fun i a b ha hb => ?_
  rw [ha] at hb
  cases hb
  rw [List.getElem?_map] at ha
  obtain ⟨z, hz, rfl⟩ := Option.map_eq_some_iff.mp ha
  rcases z with ⟨k | k, v⟩
  · exact same_int k
  · exact same_str k
theorem same_rows {H : Hp} {l R : Addr} {ws us : List V} {qs rs : List Tr} {n : Nat} (h1 : H l = some (.lst ws)) (h2 : H R = some (.lst us)) (h3 : All2 (RowAt H) ws qs) (h4 : All2 (RowAt H) us rs) (e : qs.map (·.r) = rs.map (·.r)) (hn : rs.length ≤ 1000) (hi : ∀ x ∈ rs, Ints x.r.1 ∧ Ints x.r.2) : SameV K H (n + 4) (.ref l) (.ref R) := by
  have el : qs.length = rs.length := by
    have := congrArg List.length e
    rwa [List.length_map, List.length_map] at this
  refine same_ref h1 h2 (by rw [h3.len, h4.len, el]) (by rw [h4.len]; exact hn) fun i a b ha hb => ?_
  obtain ⟨x, ex, t, rfl, a1, a2, a3⟩ := h3.at ha
  obtain ⟨y, ey, u, rfl, b1, b2, b3⟩ := h4.at hb
  have exy : x.r = y.r := by
    have e1 : (qs.map (·.r))[i]? = some x.r := by rw [List.getElem?_map, ex]; rfl
    rw [e, List.getElem?_map, ey] at e1
    exact (Option.some.inj e1).symm
  obtain ⟨i1, i2⟩ := hi y (List.mem_of_getElem? ey)
  refine same_tupN (SqT.of a1) (SqT.of b1) rfl (by show 2 ≤ 1000; decide) fun j c d hc hd => ?_
  match j, hc, hd with
  | 0, hc, hd => cases hc; cases hd; exact same_dk a2 (exy ▸ b2) (exy ▸ i1)
  | 1, hc, hd => cases hc; cases hd; exact same_dk a3 (exy ▸ b3) (exy ▸ i2)
theorem row_fl (o : Option Nat) : Fl (rowV o) := by
  cases o with
  | none => exact .inr (.inr (.inr rfl))
  | some n => exact .inl ⟨_, rfl⟩
end
section
variable {P : Program} {w : World} {K : PySem.W.Frag} {mg : Str → Option Value} {base : Heap}
variable {a_BadRow a_ElseputError a_NoRow a_Table a_Taken a_UnknownField a_UnknownKey a_UnknownName : Addr}
def sp__law_is_table (K : PySem.W.Frag) : Sp := fun vs H Q _ => ∃ (a L F kk R vv oo : Addr) (ks fs : List Str) (rows rs : List Tr) (ns : List Int) (o0 o1 o2 : Str), vs = [.ref a, .ref kk, .ref R, .ref vv, .ref oo] ∧ Pr K H a L F R ks fs rows rs ∧ H kk = some (.lst (ks.map V.str)) ∧ H vv = some (.lst (ns.map V.int)) ∧ 0 < ns.length ∧ H oo = some (.lst [.str o0, .str o1, .str o2]) ∧ o0 ∉ ks ∧ o2 ∉ ks ∧ (∀ z ∈ o0 :: o2 :: ks, z.length ≤ 1000 ∧ Asc z) ∧ ∀ H', Same H H' → Q (.bl true) H'
theorem len__law_is_table {vs : List V} {H : Hp} {Q : VK} {E : XK} (h : sp__law_is_table K vs H Q E) : vs.length = 5 := by
  obtain ⟨_, _, _, _, _, _, _, _, _, _, _, _, _, _, _, rfl, _⟩ := h
  rfl
theorem map_at {α β : Type} {f : α → β} {l m : List α} (e : l.map f = m.map f) {i : Nat} {x y : α} (hx : l[i]? = some x) (hy : m[i]? = some y) : f x = f y := by
  have e1 : (l.map f)[i]? = some (f x) := by rw [List.getElem?_map, hx]; rfl
  rw [e, List.getElem?_map, hy] at e1
  exact (Option.some.inj e1).symm
theorem ok__law_is_table {f : Addr} {fd : FuncData} {f__law_same : Addr} {fd__law_same : FuncData} {f__law_content_told : Addr} {fd__law_content_told : FuncData} {f__law_find : Addr} {fd__law_find : FuncData} {f__law_found : Addr} {fd__law_found : FuncData} {f_Table_rows : Addr} {fd_Table_rows : FuncData} {f_Table___len__ : Addr} {fd_Table___len__ : FuncData} (F : Fun K "_law_is_table" "_law_is_table" s__law_is_table f fd) (T : Gs K mg a_BadRow a_ElseputError a_NoRow a_Table a_Taken a_UnknownField a_UnknownKey a_UnknownName) (c__law_same : Cal P w K mg base CX0 26 "_law_same" f__law_same fd__law_same ["_law_actual", "_law_due"] (sp__law_same K)) (c__law_content_told : Cal P w K mg base CX0 5 "_law_content_told" f__law_content_told fd__law_content_told ["_law_table", "_law_row"] (sp__law_content_told K)) (c__law_find : Cal P w K mg base CX0 5 "_law_find" f__law_find fd__law_find ["_law_table", "_law_key", "_law_value"] (sp__law_find K)) (c__law_found : Cal P w K mg base CX0 1 "_law_found" f__law_found fd__law_found ["_law_rows", "_law_key", "_law_value"] (sp__law_found K)) (c_Table_rows : CalM P w K mg base CX0 1 a_Table "rows" f_Table_rows fd_Table_rows ["self"] (sp_Table_rows K)) (c_Table___len__ : CalL P w K mg base CX0 1 a_Table f_Table___len__ fd_Table___len__ ["self"] (sp_Table___len__ K)) : FnOk P w K mg base CX0 27 f fd ["_law_table", "_law_keys", "_law_rows", "_law_values_here", "_law_others"] (sp__law_is_table K) := by
  refine F.ok sc__law_is_table (fun vs H Q E h => len__law_is_table h) (fun cdv A outer s H vs Q E hr h => ?_)
  obtain ⟨a, L, F, kk, R, vv, oo, ks, fs, rows, rs, ns, o0, o1, o2, rfl, hP, hkk, hvv, np, hoo, n0, n2, zl, q⟩ := h
  refine ⟨_, (pss_cons (ps_set (i := 5) sc__law_is_table.nd rfl (.inl rfl) (pe_meth0 (v_ 0) c_Table_rows.cl c_Table_rows.me c_Table_rows.G (hr.mono (by first | decide | omega)) c_Table_rows.b .nil pass0)) (pss_cons (ps_if (PW.pt (pw_or (pt_not (pt_t K (pe_call c__law_same.G (hr.mono (by first | decide | omega)) rfl c__law_same.m c__law_same.kp c__law_same.b .nil pass0 (pa_cons (v_ 5) (pa_cons (v_ 2) pa_nil))))) (pw_or1 (pt_not (pt_t K (pe_call c__law_same.G (hr.mono (by first | decide | omega)) rfl c__law_same.m c__law_same.kp c__law_same.b .nil pass0 (pa_cons (pe_callB (call_lenO c_Table___len__.le c_Table___len__.G (hr.mono (by first | decide | omega)) c_Table___len__.b) (by rfl) T.z_len PySem.boot_len (pa_cons (v_ 0) pa_nil)) (pa_cons (pe_callB (lenK K) (by rfl) T.z_len PySem.boot_len (pa_cons (v_ 2) pa_nil)) pa_nil)))))))) (pss_one (ps_ret pe_bl)) pss_nil) (pss_cons (ps_for PassesOwn.never rfl (pi_range1 rfl T.z_range (pa_cons (pe_callB (lenK K) (by rfl) T.z_len PySem.boot_len (pa_cons (v_ 2) pa_nil)) pa_nil)) (pg_name (i := 6) sc__law_is_table.nd rfl (.inl rfl)) (pss_cons (ps_if (pt_not (pt_t K (pe_call c__law_same.G (hr.mono (by first | decide | omega)) rfl c__law_same.m c__law_same.kp c__law_same.b .nil pass0 (pa_cons (pe_callTy (call_list_dK rfl) (by rfl) T.z_list (by decide +kernel) (pa_cons (e_x K (e_x K (v_ 5) (v_ 6)) pe_int) pa_nil)) (pa_cons (pe_callTy (call_list_dK rfl) (by rfl) T.z_list (by decide +kernel) (pa_cons (e_x K (e_x K (v_ 2) (v_ 6)) pe_int) pa_nil)) pa_nil))))) (pss_one (ps_ret pe_bl)) pss_nil) (pss_cons (ps_if (pt_not (pt_t K (pe_call c__law_same.G (hr.mono (by first | decide | omega)) rfl c__law_same.m c__law_same.kp c__law_same.b .nil pass0 (pa_cons (pe_callTy (call_list_dK rfl) (by rfl) T.z_list (by decide +kernel) (pa_cons (e_x K (e_x K (v_ 5) (v_ 6)) pe_int) pa_nil)) (pa_cons (pe_callTy (call_list_dK rfl) (by rfl) T.z_list (by decide +kernel) (pa_cons (e_x K (e_x K (v_ 2) (v_ 6)) pe_int) pa_nil)) pa_nil))))) (pss_one (ps_ret pe_bl)) pss_nil) (pss_cons (ps_expr (pe_dclear (e_x K (e_x K (v_ 5) (v_ 6)) pe_int))) (pss_cons (ps_expr (pe_dclear (e_x K (e_x K (v_ 5) (v_ 6)) pe_int))) (pss_one (ps_if (pt_not (pt_t K (pe_call c__law_same.G (hr.mono (by first | decide | omega)) rfl c__law_same.m c__law_same.kp c__law_same.b .nil pass0 (pa_cons (pe_call c__law_content_told.G (hr.mono (by first | decide | omega)) rfl c__law_content_told.m c__law_content_told.kp c__law_content_told.b .nil pass0 (pa_cons (v_ 0) (pa_cons (v_ 6) pa_nil))) (pa_cons (pe_tup (pa_cons pe_str (pa_cons (e_x K (e_x K (v_ 2) (v_ 6)) pe_int) (pa_cons (pe_callTy (call_list_dK rfl) (by rfl) T.z_list (by decide +kernel) (pa_cons (e_x K (e_x K (v_ 2) (v_ 6)) pe_int) pa_nil)) pa_nil)))) pa_nil))))) (pss_one (ps_ret pe_bl)) pss_nil))))))) (pss_cons (ps_for PassesOwn.never rfl (pi_list (pe_lst (pa_cons (pe_un un_negM pe_int) (pa_cons (pe_callB (lenK K) (by rfl) T.z_len PySem.boot_len (pa_cons (v_ 2) pa_nil)) (pa_cons (pe_op (addK K) (pe_callB (lenK K) (by rfl) T.z_len PySem.boot_len (pa_cons (v_ 2) pa_nil)) pe_int) pa_nil))))) (pg_name (i := 7) sc__law_is_table.nd rfl (.inl rfl)) (pss_one (ps_if (pt_not (pt_t K (pe_call c__law_same.G (hr.mono (by first | decide | omega)) rfl c__law_same.m c__law_same.kp c__law_same.b .nil pass0 (pa_cons (pe_call c__law_content_told.G (hr.mono (by first | decide | omega)) rfl c__law_content_told.m c__law_content_told.kp c__law_content_told.b .nil pass0 (pa_cons (v_ 0) (pa_cons (v_ 7) pa_nil))) (pa_cons (pe_tup (pa_cons pe_str (pa_cons (v_ 7) pa_nil))) pa_nil))))) (pss_one (ps_ret pe_bl)) pss_nil))) (pss_cons (ps_for PassesOwn.never rfl (pi_list (v_ 1)) (pg_name (i := 8) sc__law_is_table.nd rfl (.inl rfl)) (pss_one (ps_for PassesOwn.never rfl (pi_list (v_ 3)) (pg_name (i := 9) sc__law_is_table.nd rfl (.inl rfl)) (pss_one (ps_if (pt_not (pt_t K (pe_call c__law_same.G (hr.mono (by first | decide | omega)) rfl c__law_same.m c__law_same.kp c__law_same.b .nil pass0 (pa_cons (pe_call c__law_find.G (hr.mono (by first | decide | omega)) rfl c__law_find.m c__law_find.kp c__law_find.b .nil pass0 (pa_cons (v_ 0) (pa_cons (v_ 8) (pa_cons (v_ 9) pa_nil)))) (pa_cons (pe_tup (pa_cons pe_str (pa_cons (pe_call c__law_found.G (hr.mono (by first | decide | omega)) rfl c__law_found.m c__law_found.kp c__law_found.b .nil pass0 (pa_cons (v_ 2) (pa_cons (v_ 8) (pa_cons (v_ 9) pa_nil)))) pa_nil))) pa_nil))))) (pss_one (ps_ret pe_bl)) pss_nil))))) (pss_cons (ps_for PassesOwn.never rfl (pi_list (pe_lst (pa_cons (e_x K (v_ 4) pe_int) (pa_cons (e_x K (v_ 4) pe_int) pa_nil)))) (pg_name (i := 8) sc__law_is_table.nd rfl (.inl rfl)) (pss_one (ps_if (pt_not (pt_t K (pe_call c__law_same.G (hr.mono (by first | decide | omega)) rfl c__law_same.m c__law_same.kp c__law_same.b .nil pass0 (pa_cons (pe_call c__law_find.G (hr.mono (by first | decide | omega)) rfl c__law_find.m c__law_find.kp c__law_find.b .nil pass0 (pa_cons (v_ 0) (pa_cons (v_ 8) (pa_cons (e_x K (v_ 3) pe_int) pa_nil)))) (pa_cons (pe_tup (pa_cons pe_str (pa_cons (v_ 8) pa_nil))) pa_nil))))) (pss_one (ps_ret pe_bl)) pss_nil))) (pss_one (ps_ret (pe_call c__law_same.G (hr.mono (by first | decide | omega)) rfl c__law_same.m c__law_same.kp c__law_same.b .nil pass0 (pa_cons (pe_meth0 (v_ 0) c_Table_rows.cl c_Table_rows.me c_Table_rows.G (hr.mono (by first | decide | omega)) c_Table_rows.b .nil pass0) (pa_cons (v_ 2) pa_nil))))))))))), ?_⟩
  obtain ⟨C, dx, _, _, _, _, hC, ha, _⟩ := id hP.T
  cases hC.symm.trans T.n_Table
  obtain ⟨us, hR, hus⟩ := hP.wr
  have r100 := hP.ok.n1000
  rw [List.length_map] at r100
  have rl : rs.length = rows.length := by
    have := congrArg List.length hP.e
    rwa [List.length_map, List.length_map] at this
  have ul := hus.len
  have hin : ∀ x ∈ rs, Ints x.r.1 ∧ Ints x.r.2 := fun x hx => by
    have := hP.ok.ro x.r (by rw [← hP.e]; exact List.mem_map.mpr ⟨x, hx, rfl⟩)
    exact ⟨this.pi, this.ci⟩
  have lens : ∀ x ∈ rs, x.r.1.length ≤ 4 ∧ x.r.2.length ≤ 4 := fun x hx => by
    have := (hP.ok.ro x.r (by rw [← hP.e]; exact List.mem_map.mpr ⟨x, hx, rfl⟩)).len
    have k4 := hP.ok.k4
    have f4 := hP.ok.f4
    omega
  have cl : ∀ x ∈ rows, x.r.2.length ≤ 1000 := fun x hx => by
    have := (hP.ok.ro x.r (List.mem_map.mpr ⟨x, hx, rfl⟩)).len
    have f4 := hP.ok.f4
    omega
  refine ⟨a, dx, _, rfl, ha, rfl, a, L, F, ks, fs, rows, rfl, hP.T, by omega, fun H1 l ws qs s1 nl hl hws eq fr nd => ?_⟩
  have eqr : qs.map (·.r) = rs.map (·.r) := eq.trans hP.e.symm
  have ql : qs.length = rs.length := by
    have := congrArg List.length eqr
    rwa [List.length_map, List.length_map] at this
  have wl := hws.len
  refine ⟨_, _, rfl, same_rows (n := 20) hl (s1 _ _ hR) hws (hus.imp fun v x h => RowAt.same h s1) eqr (by omega) hin, ?_⟩
  refine ⟨a, dx, _, rfl, s1 _ _ ha, ⟨a, L, F, ks, fs, rows, rfl, hP.T.same s1, (rows.length : Int), rfl, by omega, by omega, .inl ⟨_, .inl (SqL.of (s1 _ _ hR)), ?_⟩⟩⟩
  refine ⟨_, _, rfl, (by rw [ul, rl]; exact same_int _), ?_⟩
  refine .inl ⟨_, .inl (SqL.of (s1 _ _ hR)), _, rfl, by omega, by omega, ?_⟩
  refine for_range (lo := 0) (n := us.length) (fun i σ' H' => (∃ y6, σ' = [some (.ref a), some (.ref kk), some (.ref R), some (.ref vv), some (.ref oo), some (.ref l), y6, none, none, none]) ∧ Same H H' ∧ H' l = some (.lst ws) ∧ ∀ (j : Nat) (v : V) (x : Tr), i ≤ j → ws[j]? = some v → qs[j]? = some x → RowAt H' v x) ⟨⟨_, rfl⟩, s1, hl, fun j v x _ e1 e2 => ?_⟩ ?_ ?_
  · obtain ⟨x', e', h⟩ := hws.at e1
    cases e'.symm.trans e2
    exact h
  · rintro i σ' H2 hi ⟨⟨y6, rfl⟩, s2, hl2, hw2⟩
    obtain ⟨x, ex⟩ : ∃ x, qs[i]? = some x := ⟨_, List.getElem?_eq_getElem (by omega)⟩
    obtain ⟨y, ey⟩ : ∃ y, rs[i]? = some y := ⟨_, List.getElem?_eq_getElem (by omega)⟩
    obtain ⟨z, ez⟩ : ∃ z, rows[i]? = some z := ⟨_, List.getElem?_eq_getElem (by omega)⟩
    have xy : x.r = y.r := map_at eqr ex ey
    have yz : y.r = z.r := map_at hP.e ey ez
    obtain ⟨v, ev, _⟩ := hws.to ex
    obtain ⟨t, rfl, g1, g2, g3⟩ := hw2 i v x (Nat.le_refl _) ev ex
    obtain ⟨w, ew, u, rfl, k1, k2, k3⟩ := hus.to ey
    have iw : atI ws ((0 : Int) + (i : Int)) = some (.ref t) := by rw [Int.zero_add]; exact atI_nat ev
    have iu : atI us ((0 : Int) + (i : Int)) = some (.ref u) := by rw [Int.zero_add]; exact atI_nat ew
    have x0 : atI [V.ref x.p, .ref x.c] (0 : Int) = some (.ref x.p) := rfl
    have x1 : atI [V.ref x.p, .ref x.c] (1 : Int) = some (.ref x.c) := rfl
    have y0 : atI [V.ref y.p, .ref y.c] (0 : Int) = some (.ref y.p) := rfl
    have y1 : atI [V.ref y.p, .ref y.c] (1 : Int) = some (.ref y.c) := rfl
    have l4 := lens y (List.mem_of_getElem? ey)
    -- the keys
    refine ⟨_, .inl (SqL.of hl2), _, iw, _, .inr (SqT.of g1), _, x0, x.p, _, rfl, g2, fun l1 n1 => ?_⟩
    have sa := same_new (o := .lst (x.r.1.map fun kv => kV kv.1)) n1
    have ha1 := upd_same (H := H2) (a := l1) (o := .lst (x.r.1.map fun kv => kV kv.1))
    generalize upd H2 l1 (.lst (x.r.1.map fun kv => kV kv.1)) = H3 at sa ha1 ⊢
    have s3 := s2.trans sa
    refine ⟨_, .inl (SqL.of (s3 _ _ hR)), _, iu, _, .inr (SqT.of (s3 _ _ k1)), _, y0, y.p, _, rfl, s3 _ _ k2, fun l2 m2 => ?_⟩
    have sb := same_new (o := .lst (y.r.1.map fun kv => kV kv.1)) m2
    have hb1 := upd_same (H := H3) (a := l2) (o := .lst (y.r.1.map fun kv => kV kv.1))
    have ha1 := sb _ _ ha1
    generalize upd H3 l2 (.lst (y.r.1.map fun kv => kV kv.1)) = H4 at sb ha1 hb1 ⊢
    have s24 := sa.trans sb
    have s4 := s2.trans s24
    refine ⟨_, _, rfl, same_keys (n := 22) ha1 hb1 (by rw [xy]) (by omega), ?_⟩
    -- the fields
    have g1 := s24 _ _ g1
    have g2 := s24 _ _ g2
    have g3 := s24 _ _ g3
    have hl4 := s24 _ _ hl2
    have hw4 : ∀ (j : Nat) (v : V) (x : Tr), i ≤ j → ws[j]? = some v → qs[j]? = some x → RowAt H4 v x := fun j v x h1 h2 h3 => (hw2 j v x h1 h2 h3).same s24
    clear sa sb s3 s24 ha1 hb1 hw2 hl2 m2 n1 s2
    refine ⟨_, .inl (SqL.of hl4), _, iw, _, .inr (SqT.of g1), _, x1, x.c, _, rfl, g3, fun l1 n1 => ?_⟩
    have sa := same_new (o := .lst (x.r.2.map fun kv => kV kv.1)) n1
    have ha1 := upd_same (H := H4) (a := l1) (o := .lst (x.r.2.map fun kv => kV kv.1))
    generalize upd H4 l1 (.lst (x.r.2.map fun kv => kV kv.1)) = H3 at sa ha1 ⊢
    have s3 := s4.trans sa
    refine ⟨_, .inl (SqL.of (s3 _ _ hR)), _, iu, _, .inr (SqT.of (s3 _ _ k1)), _, y1, y.c, _, rfl, s3 _ _ k3, fun l2 m2 => ?_⟩
    have sb := same_new (o := .lst (y.r.2.map fun kv => kV kv.1)) m2
    have hb1 := upd_same (H := H3) (a := l2) (o := .lst (y.r.2.map fun kv => kV kv.1))
    have ha1 := sb _ _ ha1
    generalize upd H3 l2 (.lst (y.r.2.map fun kv => kV kv.1)) = H5 at sb ha1 hb1 ⊢
    have s45 := sa.trans sb
    have s5 := s4.trans s45
    refine ⟨_, _, rfl, same_keys (n := 22) ha1 hb1 (by rw [xy]) (by omega), ?_⟩
    have g1 := s45 _ _ g1
    have g2 := s45 _ _ g2
    have g3 := s45 _ _ g3
    have hl5 := s45 _ _ hl4
    have hw5 : ∀ (j : Nat) (v : V) (x : Tr), i ≤ j → ws[j]? = some v → qs[j]? = some x → RowAt H5 v x := fun j v x h1 h2 h3 => (hw4 j v x h1 h2 h3).same s45
    clear sa sb s3 s45 ha1 hb1 hw4 hl4 m2 n1 s4
    -- emptied
    obtain ⟨fx1, fx2, fx3, fx4⟩ := fr x (List.mem_of_getElem? ex)
    have pc := nd.1 x (List.mem_of_getElem? ex)
    refine ⟨_, .inl (SqL.of hl5), _, iw, _, .inr (SqT.of g1), .ref x.p, x0, .inr (.inr (.inl ⟨rfl, .inl ⟨_, g2⟩⟩)), x.p, _, rfl, rfl, g2, ?_⟩
    have kp : ∀ {b o}, H5 b = some o → b ≠ x.p → upd H5 x.p (.dK []) b = some o := fun {b o} h n => by rw [upd_ne n]; exact h
    have tp : t ≠ x.p := fun e => by rw [e, g2] at g1; cases g1
    have tc : t ≠ x.c := fun e => by rw [e, g3] at g1; cases g1
    refine ⟨_, .inl (SqL.of (kp hl5 fx3.symm)), _, iw, _, .inr (SqT.of (kp g1 tp)), .ref x.c, x1, .inr (.inr (.inl ⟨rfl, .inl ⟨_, kp g3 pc.symm⟩⟩)), x.c, _, rfl, rfl, kp g3 pc.symm, ?_⟩
    have kq : ∀ {b o}, H5 b = some o → b ≠ x.p → b ≠ x.c → upd (upd H5 x.p (.dK [])) x.c (.dK []) b = some o := fun {b o} h n1 n2 => by rw [upd_ne n2, upd_ne n1]; exact h
    have s6 : Same H (upd (upd H5 x.p (.dK [])) x.c (.dK [])) := fun b o hb => kq (s5 _ _ hb) (ne_of_none hb fx1) (ne_of_none hb fx2)
    have hl6 := kq hl5 fx3.symm fx4.symm
    have hw6 : ∀ (j : Nat) (v : V) (x' : Tr), i + 1 ≤ j → ws[j]? = some v → qs[j]? = some x' → RowAt (upd (upd H5 x.p (.dK [])) x.c (.dK [])) v x' := fun j v x' h1 h2 h3 => by
      obtain ⟨t', e', j1, j2, j3⟩ := hw5 j v x' (by omega) h2 h3
      obtain ⟨d1, d2, d3, d4⟩ := nd.at h3 ex (by omega)
      exact ⟨t', e', kq j1 (fun e => by rw [e, g2] at j1; cases j1) (fun e => by rw [e, g3] at j1; cases j1), kq j2 d1 d2, kq j3 d3 d4⟩
    generalize upd (upd H5 x.p (.dK [])) x.c (.dK []) = H6 at s6 hl6 hw6 ⊢
    clear kp kq hw5 hl5 s5 tp tc g1 g2 g3
    -- the content
    refine ⟨a, L, F, ks, fs, rows, (0 : Int) + (i : Int), rfl, hP.T.same s6, ?_, cl, fun H7 t7 s67 ct => ?_⟩
    · exact Nat.lt_of_le_of_lt (show ((0 : Int) + (i : Int)).natAbs ≤ 100 by omega) (by decide)
    obtain ⟨d7, l7, h71, h72, h73⟩ := ct.1 i z (by omega) ez
    have s7 := s6.trans s67
    refine ⟨_, .inl (SqL.of (s7 _ _ hR)), _, iu, _, .inr (SqT.of (s7 _ _ k1)), _, y1, ?_⟩
    refine ⟨_, .inl (SqL.of (s7 _ _ hR)), _, iu, _, .inr (SqT.of (s7 _ _ k1)), _, y1, y.c, _, rfl, s7 _ _ k3, fun l8 n8 => ?_⟩
    have s78 := same_new (o := .lst (y.r.2.map fun kv => kV kv.1)) n8
    have hl8 := upd_same (H := H7) (a := l8) (o := .lst (y.r.2.map fun kv => kV kv.1))
    generalize upd H7 l8 (.lst (y.r.2.map fun kv => kV kv.1)) = H8 at s78 hl8 ⊢
    refine ⟨(by show 3 ≤ sizeLine; decide), fun t9 n9 => ?_⟩
    have s89 := same_new (o := .tup [.str "let", .ref y.c, .ref l8]) n9
    have ht9 := upd_same (H := H8) (a := t9) (o := .tup [.str "let", .ref y.c, .ref l8])
    generalize upd H8 t9 (.tup [.str "let", .ref y.c, .ref l8]) = H9 at s89 ht9 ⊢
    have s79 := s78.trans s89
    have s9 := s7.trans s79
    refine ⟨_, _, rfl, same_tupN (n := 23) (SqT.of (s79 _ _ h71)) (SqT.of ht9) rfl (by show 3 ≤ 1000; decide) fun j b c hb hc => ?_, ?_⟩
    · match j, hb, hc with
      | 0, hb, hc => cases hb; cases hc; exact same_str _
      | 1, hb, hc => cases hb; cases hc; exact same_dk (n := 21) (s79 _ _ h72) (yz ▸ s9 _ _ k3) (yz ▸ (hin y (List.mem_of_getElem? ey)).2)
      | 2, hb, hc => cases hb; cases hc; exact same_keys (n := 21) (s79 _ _ h73) (s89 _ _ hl8) (by rw [yz]) (by omega)
    have s69 := s67.trans s79
    exact ⟨⟨_, rfl⟩, s9, s69 _ _ hl6, fun j v x' h1 h2 h3 => (hw6 j v x' h1 h2 h3).same s69⟩
  rintro σ' H2 ⟨⟨y6, rfl⟩, s2, -, -⟩
  -- no such row
  refine .inl ⟨_, .inl (SqL.of (s2 _ _ hR)), .inl ⟨_, .inl (SqL.of (s2 _ _ hR)), (by show 3 ≤ sizeLine; decide), fun b nb => ?_⟩⟩
  have sb := s2.trans (same_new (o := .lst [.int (-1), .int (us.length : Int), .int ((us.length : Int) + 1)]) nb)
  have hb := upd_same (H := H2) (a := b) (o := .lst [.int (-1), .int (us.length : Int), .int ((us.length : Int) + 1)])
  have hb : upd H2 b (.lst [.int (-1), .int (us.length : Int), .int ((us.length : Int) + 1)]) b = some (.lst (([-1, (us.length : Int), (us.length : Int) + 1] : List Int).map V.int)) := hb
  show (fun H3 => _) (upd H2 b (.lst [.int (-1), .int (us.length : Int), .int ((us.length : Int) + 1)]))
  generalize upd H2 b (.lst [.int (-1), .int (us.length : Int), .int ((us.length : Int) + 1)]) = H3 at sb hb ⊢
  refine ⟨b, rfl, ⟨_, SqL.of hb⟩, ?_⟩
  refine for_list (K := K) (a := b) (xs := ([-1, (us.length : Int), (us.length : Int) + 1] : List Int).map V.int) (fun i σ' H' => (∃ y7, σ' = [some (.ref a), some (.ref kk), some (.ref R), some (.ref vv), some (.ref oo), some (.ref l), y6, y7, none, none]) ∧ Same H3 H') ⟨⟨_, rfl⟩, Same.refl _⟩ (fun _ _ _ _ h => SqL.of (h.2 _ _ hb)) ?_ ?_
  · rintro i v σ' H4 hi ⟨⟨y7, rfl⟩, s4⟩
    rw [List.getElem?_map] at hi
    obtain ⟨r, er, rfl⟩ := Option.map_eq_some_iff.mp hi
    have hr : r = -1 ∨ r = (us.length : Int) ∨ r = (us.length : Int) + 1 := by
      have := List.mem_of_getElem? er
      simpa using this
    have sH := sb.trans s4
    refine ⟨a, L, F, ks, fs, rows, r, rfl, hP.T.same sH, ?_, cl, fun H5 t s5 ct => ?_⟩
    · exact Nat.lt_of_le_of_lt (show r.natAbs ≤ 200 by omega) (by decide)
    have ht := ct.2 (by omega)
    refine ⟨(by show 2 ≤ sizeLine; decide), fun t2 nt2 => ?_⟩
    have s6 := same_new (o := .tup [.str "norow", .int r]) nt2
    have ht2 := upd_same (H := H5) (a := t2) (o := .tup [.str "norow", .int r])
    generalize upd H5 t2 (.tup [.str "norow", .int r]) = H6 at s6 ht2 ⊢
    refine ⟨_, _, rfl, same_two (m := 22) (SqT.of (s6 _ _ ht)) (SqT.of ht2) (same_int _), ⟨_, rfl⟩, s4.trans (s5.trans s6)⟩
  rintro σ' H4 ⟨⟨y7, rfl⟩, s4⟩
  have sH := sb.trans s4
  generalize H4 = H2 at sH ⊢
  clear s4 sb s2 hb nb
  -- found by each value
  refine ⟨kk, rfl, ⟨_, SqL.of (sH _ _ hkk)⟩, ?_⟩
  refine for_list (K := K) (a := kk) (xs := ks.map V.str) (fun i σ' H' => (∃ y8 y9, σ' = [some (.ref a), some (.ref kk), some (.ref R), some (.ref vv), some (.ref oo), some (.ref l), y6, y7, y8, y9]) ∧ Same H H') ⟨⟨_, _, rfl⟩, sH⟩ (fun _ _ _ _ h => SqL.of (h.2 _ _ hkk)) ?_ ?_
  · rintro i v σ' H4 hi ⟨⟨y8, y9, rfl⟩, s4⟩
    rw [List.getElem?_map] at hi
    obtain ⟨k, ek, rfl⟩ := Option.map_eq_some_iff.mp hi
    have km : k ∈ ks := List.mem_of_getElem? ek
    obtain ⟨kl, ka⟩ := zl k (List.mem_cons_of_mem _ (List.mem_cons_of_mem _ km))
    refine ⟨vv, rfl, ⟨_, SqL.of (s4 _ _ hvv)⟩, ?_⟩
    refine for_list (K := K) (a := vv) (xs := ns.map V.int) (fun i σ' H' => (∃ y9, σ' = [some (.ref a), some (.ref kk), some (.ref R), some (.ref vv), some (.ref oo), some (.ref l), y6, y7, some (.str k), y9]) ∧ Same H H') ⟨⟨_, rfl⟩, s4⟩ (fun _ _ _ _ h => SqL.of (h.2 _ _ hvv)) ?_ ?_
    · rintro j v σ' H5 hj ⟨⟨y9, rfl⟩, s5⟩
      rw [List.getElem?_map] at hj
      obtain ⟨n, en, rfl⟩ := Option.map_eq_some_iff.mp hj
      refine ⟨a, L, F, ks, fs, rows, k, n, rfl, hP.T.same s5, kl, ka, fun H6 t s6 ft => ?_⟩
      unfold FiT at ft
      rw [if_pos km] at ft
      have s56 := s5.trans s6
      refine ⟨R, us, rs, k, n, rfl, s56 _ _ hR, hus.imp fun v x h => RowAt.same h s56, fun x hx => (hin x hx).1, by omega, fun H7 s7 => ?_⟩
      refine ⟨(by show 2 ≤ sizeLine; decide), fun t2 nt2 => ?_⟩
      have s8 := same_new (o := .tup [.str "let", rowV (firstAt (rs.map (·.r)) k n)]) nt2
      have ht2 := upd_same (H := H7) (a := t2) (o := .tup [.str "let", rowV (firstAt (rs.map (·.r)) k n)])
      generalize upd H7 t2 (.tup [.str "let", rowV (firstAt (rs.map (·.r)) k n)]) = H8 at s8 ht2 ⊢
      rw [hP.e] at ht2
      refine ⟨_, _, rfl, same_two (m := 22) (SqT.of (s8 _ _ (s7 _ _ ft))) (SqT.of ht2) (same_fl (row_fl _)), ⟨_, rfl⟩, s56.trans (s7.trans s8)⟩
    rintro σ' H5 ⟨⟨y9, rfl⟩, s5⟩
    exact ⟨⟨_, _, rfl⟩, s5⟩
  rintro σ' H4 ⟨⟨y8, y9, rfl⟩, s4⟩
  -- no such key
  have o0' : atI [V.str o0, .str o1, .str o2] (0 : Int) = some (.str o0) := rfl
  have o2' : atI [V.str o0, .str o1, .str o2] (2 : Int) = some (.str o2) := rfl
  refine ⟨_, .inl (SqL.of (s4 _ _ hoo)), _, o0', _, .inl (SqL.of (s4 _ _ hoo)), _, o2', (by show 2 ≤ sizeLine; decide), fun b nb => ?_⟩
  have sb := s4.trans (same_new (o := .lst [.str o0, .str o2]) nb)
  have hb : upd H4 b (.lst [.str o0, .str o2]) b = some (.lst ([o0, o2].map V.str)) := upd_same
  show (fun H3 => _) (upd H4 b (.lst [.str o0, .str o2]))
  generalize upd H4 b (.lst [.str o0, .str o2]) = H3 at sb hb ⊢
  refine ⟨b, rfl, ⟨_, SqL.of hb⟩, ?_⟩
  refine for_list (K := K) (a := b) (xs := [o0, o2].map V.str) (fun i σ' H' => (∃ y8, σ' = [some (.ref a), some (.ref kk), some (.ref R), some (.ref vv), some (.ref oo), some (.ref l), y6, y7, y8, y9]) ∧ Same H3 H') ⟨⟨_, rfl⟩, Same.refl _⟩ (fun _ _ _ _ h => SqL.of (h.2 _ _ hb)) ?_ ?_
  · rintro i v σ' H5 hi ⟨⟨y8, rfl⟩, s5⟩
    rw [List.getElem?_map] at hi
    obtain ⟨k, ek, rfl⟩ := Option.map_eq_some_iff.mp hi
    have ko : k = o0 ∨ k = o2 := by
      have := List.mem_of_getElem? ek
      simpa using this
    have km : k ∉ ks := by
      rcases ko with rfl | rfl
      · exact n0
      · exact n2
    obtain ⟨kl, ka⟩ := zl k (by rcases ko with rfl | rfl <;> simp)
    have sH := sb.trans s5
    obtain ⟨n, en⟩ : ∃ n, ns[0]? = some n := ⟨_, List.getElem?_eq_getElem np⟩
    have v0 : atI (ns.map V.int) (0 : Int) = some (.int n) := atI_nat (j := 0) (by rw [List.getElem?_map, en]; rfl)
    refine ⟨_, .inl (SqL.of (sH _ _ hvv)), _, v0, a, L, F, ks, fs, rows, k, n, rfl, hP.T.same sH, kl, ka, fun H6 t s6 ft => ?_⟩
    unfold FiT at ft
    rw [if_neg km] at ft
    refine ⟨(by show 2 ≤ sizeLine; decide), fun t2 nt2 => ?_⟩
    have s8 := same_new (o := .tup [.str "unknown", .str k]) nt2
    have ht2 := upd_same (H := H6) (a := t2) (o := .tup [.str "unknown", .str k])
    generalize upd H6 t2 (.tup [.str "unknown", .str k]) = H8 at s8 ht2 ⊢
    refine ⟨_, _, rfl, same_two (m := 22) (SqT.of (s8 _ _ ft)) (SqT.of ht2) (same_str _), ⟨_, rfl⟩, s5.trans (s6.trans s8)⟩
  rintro σ' H5 ⟨⟨y8, rfl⟩, s5⟩
  have sH := sb.trans s5
  refine ⟨a, dx, _, rfl, sH _ _ ha, rfl, a, L, F, ks, fs, rows, rfl, hP.T.same sH, by omega, fun H6 l' ws' qs' s6 _ hl' hws' eq' _ _ => ?_⟩
  have s56 := sH.trans s6
  exact ⟨_, _, rfl, same_rows (n := 20) hl' (s56 _ _ hR) hws' (hus.imp fun v x h => RowAt.same h s56) (eq'.trans hP.e.symm) (by omega) hin, q _ s56⟩
end
section
variable {P : Program} {w : World} {K : PySem.W.Frag} {mg : Str → Option Value} {base : Heap}
variable {a_BadRow a_ElseputError a_NoRow a_Table a_Taken a_UnknownField a_UnknownKey a_UnknownName : Addr}
theorem DrAt.flat {H : Hp} {st scr b : Addr} {l : List V} (h : DrAt H st scr) (hb : H b = some (.lst l)) (n : ∀ x ∈ l, ∀ a, x ≠ .ref a) : b ≠ st := fun e => by
  obtain ⟨ns, i, v, m, c, h1, _⟩ := h
  rw [e, h1] at hb
  cases hb
  exact n (.ref scr) List.mem_cons_self scr rfl
theorem strs_flat {zs : List Str} : ∀ x ∈ zs.map V.str, ∀ a, x ≠ .ref a := fun x hx a e => by
  obtain ⟨z, _, rfl⟩ := List.mem_map.mp hx
  cases e
theorem ints_flat {zs : List Int} : ∀ x ∈ zs.map V.int, ∀ a, x ≠ .ref a := fun x hx a e => by
  obtain ⟨z, _, rfl⟩ := List.mem_map.mp hx
  cases e
/-- a dict of whole numbers under names -/
def Kd (pl : Kvs) (n : Nat) : Prop := ∃ zs : List Str, pl.map Prod.fst = zs.map kS ∧ zs.Nodup ∧ Ints pl ∧ zs.length ≤ n
theorem Kd.nil : Kd [] 0 := ⟨[], rfl, .nil, (fun _ h => nomatch h), Nat.le_refl _⟩
theorem Kd.le {pl : Kvs} {n m : Nat} (h : Kd pl n) (l : n ≤ m) : Kd pl m := by
  obtain ⟨zs, a, b, c, d⟩ := h
  exact ⟨zs, a, b, c, by omega⟩
theorem Kd.len {pl : Kvs} {n : Nat} (h : Kd pl n) : pl.length ≤ n := by
  obtain ⟨zs, a, b, c, d⟩ := h
  have := congrArg List.length a
  rw [List.length_map, List.length_map] at this
  omega
theorem Kd.put {pl : Kvs} {n : Nat} {z : Str} {i : Int} (h : Kd pl n) : Kd (putK pl (kS z) (.int i)) (n + 1) := by
  obtain ⟨zs, a, b, c, d⟩ := h
  by_cases m : z ∈ zs
  · refine ⟨zs, ?_, b, put_ints c, by omega⟩
    rw [put_keys (key_some (by rw [a]; exact List.mem_map.mpr ⟨z, m, rfl⟩)), a]
  · have e : valV pl (kS z) = none := by
      cases e : valV pl (kS z) with
      | none => rfl
      | some v =>
        have := valV_in e
        rw [show pl.map (fun x => x.1) = zs.map kS from a] at this
        obtain ⟨y, hy, ey⟩ := List.mem_map.mp this
        exact absurd (kS_inj ey ▸ hy) m
    refine ⟨zs ++ [z], ?_, List.nodup_append.mpr ⟨b, List.nodup_cons.mpr ⟨List.not_mem_nil, .nil⟩, fun x hx y hy e => m (by rw [← List.mem_singleton.mp hy, ← e]; exact hx)⟩, put_ints c, by rw [List.length_append]; show zs.length + 1 ≤ n + 1; omega⟩
    rw [putK_new _ e, List.map_append, List.map_append, a]
    rfl
theorem Kd.ord {pl : Kvs} {n : Nat} {ks : List Str} (h : Kd pl n) (nd : ks.Nodup) : Kd (ordK ks pl) ks.length := by
  obtain ⟨zs, a, s, _⟩ := ord_keys (ks := ks) (l := pl)
  exact ⟨zs, a, nd.sublist s, ord_ints h.choose_spec.2.2.1, s.length_le⟩
def sp__law_new_row (K : PySem.W.Frag) : Sp := fun vs H Q _ => ∃ (st scr kk ff vv oo : Addr) (ks fs : List Str) (ns : List Int) (o0 o1 o2 : Str) (k : Int), vs = [.ref st, .ref kk, .ref ff, .ref vv, .ref oo, .int k] ∧ DrAt H st scr ∧ H kk = some (.lst (ks.map V.str)) ∧ H ff = some (.lst (fs.map V.str)) ∧ H vv = some (.lst (ns.map V.int)) ∧ ns.length = 4 ∧ H oo = some (.lst [.str o0, .str o1, .str o2]) ∧ ks.length ≤ 4 ∧ fs.length ≤ 3 ∧ fs.Nodup ∧
  ∀ (H' : Hp) (t p c : Addr) (pl ct : Kvs), Bt st H H' → DrAt H' st scr → H t = none → H p = none → H c = none → p ≠ c → H' t = some (.tup [.ref p, .ref c]) → H' p = some (.dK pl) → H' c = some (.dK ct) → Kd pl 5 → Kd ct 4 → Q (.ref t) H'
theorem len__law_new_row {vs : List V} {H : Hp} {Q : VK} {E : XK} (h : sp__law_new_row K vs H Q E) : vs.length = 6 := by
  obtain ⟨_, _, _, _, _, _, _, _, _, _, _, _, _, rfl, _⟩ := h
  rfl
theorem ok__law_new_row {f : Addr} {fd : FuncData} {f__law_mixed : Addr} {fd__law_mixed : FuncData} {f__law_draw : Addr} {fd__law_draw : FuncData} {f__law_number : Addr} {fd__law_number : FuncData} {f__law_in_order : Addr} {fd__law_in_order : FuncData} (F : Fun K "_law_new_row" "_law_new_row" s__law_new_row f fd) (T : Gs K mg a_BadRow a_ElseputError a_NoRow a_Table a_Taken a_UnknownField a_UnknownKey a_UnknownName) (c__law_mixed : Cal P w K mg base CX0 2 "_law_mixed" f__law_mixed fd__law_mixed ["_law_state_here", "_law_row"] (sp__law_mixed K)) (c__law_draw : Cal P w K mg base CX0 1 "_law_draw" f__law_draw fd__law_draw ["_law_state_here", "_law_many"] (sp__law_draw K)) (c__law_number : Cal P w K mg base CX0 2 "_law_number" f__law_number fd__law_number ["_law_state_here"] (sp__law_number K)) (c__law_in_order : Cal P w K mg base CX0 1 "_law_in_order" f__law_in_order fd__law_in_order ["_law_names_here", "_law_source"] (sp__law_in_order K)) : FnOk P w K mg base CX0 3 f fd ["_law_state_here", "_law_keys", "_law_fields", "_law_values_here", "_law_others", "_law_k"] (sp__law_new_row K) := by
  refine F.ok sc__law_new_row (fun vs H Q E h => len__law_new_row h) (fun cdv A outer s H vs Q E hr h => ?_)
  obtain ⟨st, scr, kk, ff, vv, oo, ks, fs, ns, o0, o1, o2, k, rfl, hd, hkk, hff, hvv, n4, hoo, k4, f3, fnd, q⟩ := h
  refine ⟨_, (pss_cons (ps_set (i := 6) sc__law_new_row.nd rfl (.inl rfl) pe_dnewK) (pss_cons (ps_for PassesOwn.never rfl (pi_list (pe_call c__law_mixed.G (hr.mono (by first | decide | omega)) rfl c__law_mixed.m c__law_mixed.kp c__law_mixed.b .nil pass0 (pa_cons (v_ 0) (pa_cons (v_ 1) pa_nil)))) (pg_name (i := 7) sc__law_new_row.nd rfl (.inl rfl)) (pss_cons (ps_set (i := 11) sc__law_new_row.nd rfl (.inl rfl) (pe_op op_subM pe_int (pe_call c__law_draw.G (hr.mono (by first | decide | omega)) rfl c__law_draw.m c__law_draw.kp c__law_draw.b .nil pass0 (pa_cons (v_ 0) (pa_cons pe_int pa_nil))))) (pss_one (ps_if (pt_c op_gtM (v_ 11) pe_int) (pss_one (ps_asg (e_x K (v_ 3) (pe_op op_modM (pe_callTy call_intM (by rfl) T.z_int (by decide +kernel) (pa_cons (pe_op (addK K) (v_ 11) (v_ 5)) pa_nil)) pe_int)) (pg_sub (v_ 6) (v_ 7) (set_dict (hu_of hr))))) pss_nil)))) (pss_cons (ps_set (i := 8) sc__law_new_row.nd rfl (.inl rfl) (pe_call c__law_draw.G (hr.mono (by first | decide | omega)) rfl c__law_draw.m c__law_draw.kp c__law_draw.b .nil pass0 (pa_cons (v_ 0) (pa_cons pe_int pa_nil)))) (Evl.pss_cut (ps_if (pt_c (eqK K hr.units) (v_ 8) pe_int) (pss_one (ps_asg (e_x K (v_ 3) pe_int) (pg_sub (v_ 6) (e_x K (v_ 4) pe_int) (set_dict (hu_of hr))))) pss_nil) (Evl.pss_cut (ps_if (pt_c (eqK K hr.units) (v_ 8) pe_int) (pss_one (ps_set (i := 6) sc__law_new_row.nd rfl (.inl rfl) pe_dnewK)) pss_nil) (pss_cons (ps_set (i := 9) sc__law_new_row.nd rfl (.inl rfl) pe_dnewK) (pss_cons (ps_for PassesOwn.never rfl (pi_list (pe_call c__law_mixed.G (hr.mono (by first | decide | omega)) rfl c__law_mixed.m c__law_mixed.kp c__law_mixed.b .nil pass0 (pa_cons (v_ 0) (pa_cons (v_ 2) pa_nil)))) (pg_name (i := 10) sc__law_new_row.nd rfl (.inl rfl)) (pss_one (ps_asg (pe_call c__law_number.G (hr.mono (by first | decide | omega)) rfl c__law_number.m c__law_number.kp c__law_number.b .nil pass0 (pa_cons (v_ 0) pa_nil)) (pg_sub (v_ 9) (v_ 10) (set_dict (hu_of hr)))))) (pss_cons (ps_set (i := 8) sc__law_new_row.nd rfl (.inl rfl) (pe_call c__law_draw.G (hr.mono (by first | decide | omega)) rfl c__law_draw.m c__law_draw.kp c__law_draw.b .nil pass0 (pa_cons (v_ 0) (pa_cons pe_int pa_nil)))) (Evl.pss_cut (ps_if (pt_c (eqK K hr.units) (v_ 8) pe_int) (pss_one (ps_asg pe_int (pg_sub (v_ 9) (e_x K (v_ 4) pe_int) (set_dict (hu_of hr))))) pss_nil) (Evl.pss_cut (ps_if (pt_c (eqK K hr.units) (v_ 8) pe_int) (pss_one (ps_set (i := 9) sc__law_new_row.nd rfl (.inl rfl) (pe_call c__law_in_order.G (hr.mono (by first | decide | omega)) rfl c__law_in_order.m c__law_in_order.kp c__law_in_order.b .nil pass0 (pa_cons (pe_slice (slK K) (v_ 2) (po_some pe_int) po_none) (pa_cons (v_ 9) pa_nil))))) pss_nil) (pss_one (ps_ret (pe_tup (pa_cons (v_ 6) (pa_cons (v_ 9) pa_nil))))))))))))))), ?_⟩
  have kst := hd.flat hkk strs_flat
  have fst' := hd.flat hff strs_flat
  have vst := hd.flat hvv ints_flat
  have ost := hd.flat hoo (by intro x hx a e; subst e; simp at hx)
  have iat : ∀ i : Int, 0 ≤ i → i < 4 → ∃ n, atI (ns.map V.int) i = some (.int n) := fun i h0 h1 => by
    obtain ⟨x, hx, hm⟩ := at_list (xs := ns.map V.int) h0 (by rw [List.length_map]; omega)
    obtain ⟨n, _, rfl⟩ := List.mem_map.mp hm
    exact ⟨n, hx⟩
  intro D nD
  have b1 : Bt st H (upd H D (.dK [])) := Bt.same (same_new nD)
  have hD : upd H D (.dK []) D = some (.dK []) := upd_same
  have hd1 := hd.new (same_new (o := .dK []) nD)
  have Dst : D ≠ st := hd.ne_new nD
  have Dsc : D ≠ scr := hd.ne_scr nD
  show (fun H4 => _) (upd H D (.dK []))
  generalize upd H D (.dK []) = H1 at b1 hD hd1 ⊢
  refine ⟨st, scr, kk, _, rfl, hd1, b1 _ _ kst hkk, kst, by rw [List.length_map]; omega, fun H2 m ys b2 hd2 nm hm pm => ⟨m, rfl, ⟨_, SqL.of hm⟩, ?_⟩⟩
  have Dm : D ≠ m := ne_of_none hD nm
  have mst : m ≠ st := hd1.ne_new nm
  have yl : ys.length ≤ 4 := by rw [pm.length_eq, List.length_map]; exact k4
  refine for_list (K := K) (a := m) (xs := ys) (fun i σ' H' => (∃ y7 y11, σ' = [some (.ref st), some (.ref kk), some (.ref ff), some (.ref vv), some (.ref oo), some (.int k), some (.ref D), y7, none, none, none, y11]) ∧ Bt st H H' ∧ DrAt H' st scr ∧ H' m = some (.lst ys) ∧ ∃ pl, H' D = some (.dK pl) ∧ Kd pl i) ⟨⟨_, _, rfl⟩, b1.trans b2, hd2, hm, [], b2 _ _ Dst hD, Kd.nil⟩ (fun _ _ _ _ h => SqL.of h.2.2.2.1) ?_ ?_
  · rintro i v σ' H3 hi ⟨⟨y7, y11, rfl⟩, b3, hd3, hm3, pl, hD3, kd⟩
    have il := (List.getElem?_eq_some_iff.mp hi).1
    obtain ⟨z, _, rfl⟩ := List.mem_map.mp (pm.mem_iff.mp (List.mem_of_getElem? hi))
    refine ⟨st, scr, 5, rfl, hd3, by decide, many_small (by decide) (by decide), fun r l r0 r1 hd4 => ?_⟩
    have b4 : Bt st H (upd H3 st (.lst l)) := b3.trans Bt.st
    have hD4 : upd H3 st (.lst l) D = some (.dK pl) := by rw [upd_ne Dst]; exact hD3
    have hm4 : upd H3 st (.lst l) m = some (.lst ys) := by rw [upd_ne mst]; exact hm3
    generalize upd H3 st (.lst l) = H4 at b4 hD4 hm4 hd4 ⊢
    refine ite2 (fun c => ?_) (fun c => ?_)
    · obtain ⟨n, en⟩ := iat ((4 - r + k) % 4) (Int.emod_nonneg _ (by decide)) (Int.emod_lt_of_pos _ (by decide))
      refine ⟨(by decide), _, .inl (SqL.of (b4 _ _ vst hvv)), _, en, D, _, rfl, DPut.k (k := kS z) hD4 (line_lt (by have := kd.len; omega)), ⟨_, _, rfl⟩, ?_, hd4.at Dst Dsc, ?_, _, upd_same, kd.put⟩
      · intro b o n hb
        rw [upd_ne (ne_of_none hb nD)]
        exact b4 _ _ n hb
      · rw [upd_ne Dm.symm]; exact hm4
    · exact ⟨⟨_, _, rfl⟩, b4, hd4, hm4, pl, hD4, kd.le (by omega)⟩
  rintro σ' H3 ⟨⟨y7, y11, rfl⟩, b3, hd3, -, pl, hD3, kd⟩
  have kd := kd.le yl
  clear hm pm Dm mst yl
  refine ⟨st, scr, 12, rfl, hd3, by decide, many_small (by decide) (by decide), fun r l r0 r1 hd4 => ?_⟩
  have b4 : Bt st H (upd H3 st (.lst l)) := b3.trans Bt.st
  have hD4 : upd H3 st (.lst l) D = some (.dK pl) := by rw [upd_ne Dst]; exact hD3
  generalize upd H3 st (.lst l) = H4 at b4 hD4 hd4 ⊢
  refine ⟨fun σ' H' => σ' = [some (.ref st), some (.ref kk), some (.ref ff), some (.ref vv), some (.ref oo), some (.int k), some (.ref D), y7, some (.int r), none, none, y11] ∧ Bt st H H' ∧ DrAt H' st scr ∧ ∃ pl, H' D = some (.dK pl) ∧ Kd pl 5, ?_, ?_⟩
  · refine ite2 (fun c => ?_) (fun c => ?_)
    · obtain ⟨n, en⟩ := iat 0 (by decide) (by decide)
      have o0' : atI [V.str o0, .str o1, .str o2] (0 : Int) = some (.str o0) := rfl
      refine ⟨_, .inl (SqL.of (b4 _ _ vst hvv)), _, en, _, .inl (SqL.of (b4 _ _ ost hoo)), _, o0', D, _, rfl, DPut.k (k := kS o0) hD4 (line_lt (by have := kd.len; omega)), rfl, ?_, hd4.at Dst Dsc, _, upd_same, kd.put⟩
      intro b o n hb
      rw [upd_ne (ne_of_none hb nD)]
      exact b4 _ _ n hb
    · exact ⟨rfl, b4, hd4, pl, hD4, kd.le (by omega)⟩
  rintro σ' H5 ⟨rfl, b5, hd5, pl5, hD5, kd5⟩
  refine ⟨fun σ' H' => ∃ D, σ' = [some (.ref st), some (.ref kk), some (.ref ff), some (.ref vv), some (.ref oo), some (.int k), some (.ref D), y7, some (.int r), none, none, y11] ∧ Bt st H H' ∧ DrAt H' st scr ∧ H D = none ∧ ∃ pl, H' D = some (.dK pl) ∧ Kd pl 5, ?_, ?_⟩
  · refine ite2 (fun c => ?_) (fun c => ?_)
    · intro G nG
      have Gst : G ≠ st := hd5.ne_new nG
      exact ⟨G, rfl, b5.trans (Bt.same (same_new nG)), hd5.new (same_new nG), b5.free Gst nG, [], upd_same, Kd.nil.le (by omega)⟩
    · exact ⟨D, rfl, b5, hd5, nD, pl5, hD5, kd5⟩
  clear Dst Dsc hD hD3 hD4 hD5 kd kd5 b1 b2 b3 b4 b5
  rintro σ' H6 ⟨D, rfl, b6, hd6, nD, pl, hD6, kd⟩
  have Dst : D ≠ st := hd.ne_new nD
  intro C nC
  have CD : C ≠ D := (ne_of_none hD6 nC).symm
  have Cst : C ≠ st := hd6.ne_new nC
  have Csc : C ≠ scr := hd6.ne_scr nC
  have C0 : H C = none := b6.free Cst nC
  have b7 : Bt st H (upd H6 C (.dK [])) := b6.trans (Bt.same (same_new nC))
  have hC7 : upd H6 C (.dK []) C = some (.dK []) := upd_same
  have hD7 := same_new (o := .dK []) nC _ _ hD6
  have hd7 := hd6.new (same_new (o := .dK []) nC)
  show (fun H4 => _) (upd H6 C (.dK []))
  generalize upd H6 C (.dK []) = H7 at b7 hC7 hD7 hd7 ⊢
  refine ⟨st, scr, ff, _, rfl, hd7, b7 _ _ fst' hff, fst', by rw [List.length_map]; omega, fun H2 m ys b2 hd2 nm hm pm => ⟨m, rfl, ⟨_, SqL.of hm⟩, ?_⟩⟩
  have Cm : C ≠ m := ne_of_none hC7 nm
  have mst : m ≠ st := hd7.ne_new nm
  have yl : ys.length ≤ 3 := by rw [pm.length_eq, List.length_map]; exact f3
  refine for_list (K := K) (a := m) (xs := ys) (fun i σ' H' => (∃ y10, σ' = [some (.ref st), some (.ref kk), some (.ref ff), some (.ref vv), some (.ref oo), some (.int k), some (.ref D), y7, some (.int r), some (.ref C), y10, y11]) ∧ Bt st H H' ∧ DrAt H' st scr ∧ H' m = some (.lst ys) ∧ H' D = some (.dK pl) ∧ ∃ ct, H' C = some (.dK ct) ∧ Kd ct i) ⟨⟨_, rfl⟩, b7.trans b2, hd2, hm, b2 _ _ Dst hD7, [], b2 _ _ Cst hC7, Kd.nil⟩ (fun _ _ _ _ h => SqL.of h.2.2.2.1) ?_ ?_
  · rintro i v σ' H3 hi ⟨⟨y10, rfl⟩, b3, hd3, hm3, hD3, ct, hC3, kc⟩
    have il := (List.getElem?_eq_some_iff.mp hi).1
    obtain ⟨z, _, rfl⟩ := List.mem_map.mp (pm.mem_iff.mp (List.mem_of_getElem? hi))
    refine ⟨st, scr, rfl, hd3, fun l n bd hd4 => ?_⟩
    have b4 : Bt st H (upd H3 st (.lst l)) := b3.trans Bt.st
    have hD4 : upd H3 st (.lst l) D = some (.dK pl) := by rw [upd_ne Dst]; exact hD3
    have hC4 : upd H3 st (.lst l) C = some (.dK ct) := by rw [upd_ne Cst]; exact hC3
    have hm4 : upd H3 st (.lst l) m = some (.lst ys) := by rw [upd_ne mst]; exact hm3
    generalize upd H3 st (.lst l) = H4 at b4 hD4 hC4 hm4 hd4 ⊢
    refine ⟨C, _, rfl, DPut.k (k := kS z) hC4 (line_lt (by have := kc.len; omega)), ⟨_, rfl⟩, ?_, hd4.at Cst Csc, ?_, ?_, _, upd_same, kc.put⟩
    · intro b o n hb
      rw [upd_ne (ne_of_none hb C0)]
      exact b4 _ _ n hb
    · rw [upd_ne Cm.symm]; exact hm4
    · rw [upd_ne CD.symm]; exact hD4
  rintro σ' H3 ⟨⟨y10, rfl⟩, b3, hd3, -, hD3, ct, hC3, kc⟩
  have kc := kc.le yl
  clear hm pm Cm mst yl
  refine ⟨st, scr, 12, rfl, hd3, by decide, many_small (by decide) (by decide), fun r2 l r0 r1 hd4 => ?_⟩
  have b4 : Bt st H (upd H3 st (.lst l)) := b3.trans Bt.st
  have hD4 : upd H3 st (.lst l) D = some (.dK pl) := by rw [upd_ne Dst]; exact hD3
  have hC4 : upd H3 st (.lst l) C = some (.dK ct) := by rw [upd_ne Cst]; exact hC3
  generalize upd H3 st (.lst l) = H4 at b4 hD4 hC4 hd4 ⊢
  refine ⟨fun σ' H' => σ' = [some (.ref st), some (.ref kk), some (.ref ff), some (.ref vv), some (.ref oo), some (.int k), some (.ref D), y7, some (.int r2), some (.ref C), y10, y11] ∧ Bt st H H' ∧ DrAt H' st scr ∧ H' D = some (.dK pl) ∧ ∃ ct, H' C = some (.dK ct) ∧ Kd ct 4, ?_, ?_⟩
  · refine ite2 (fun c => ?_) (fun c => ?_)
    · have o1' : atI [V.str o0, .str o1, .str o2] (1 : Int) = some (.str o1) := rfl
      refine ⟨_, .inl (SqL.of (b4 _ _ ost hoo)), _, o1', C, _, rfl, DPut.k (k := kS o1) hC4 (line_lt (by have := kc.len; omega)), rfl, ?_, hd4.at Cst Csc, ?_, _, upd_same, kc.put⟩
      · intro b o n hb
        rw [upd_ne (ne_of_none hb C0)]
        exact b4 _ _ n hb
      · rw [upd_ne CD.symm]; exact hD4
    · exact ⟨rfl, b4, hd4, hD4, ct, hC4, kc.le (by omega)⟩
  rintro σ' H5 ⟨rfl, b5, hd5, hD5, ct5, hC5, kc5⟩
  refine ⟨fun σ' H' => ∃ C, σ' = [some (.ref st), some (.ref kk), some (.ref ff), some (.ref vv), some (.ref oo), some (.int k), some (.ref D), y7, some (.int r2), some (.ref C), y10, y11] ∧ Bt st H H' ∧ DrAt H' st scr ∧ H C = none ∧ C ≠ D ∧ H' D = some (.dK pl) ∧ ∃ ct, H' C = some (.dK ct) ∧ Kd ct 4, ?_, ?_⟩
  · refine ite2 (fun c => ?_) (fun c => ?_)
    · refine ⟨1, rfl, .inl ⟨_, SqL.of (b5 _ _ fst' hff), fun g ng => ?_⟩⟩
      rw [cutV_drop _ (by decide)]
      have sg := same_new (o := .lst ((fs.map V.str).drop (1 : Int).toNat)) ng
      have hg : upd H5 g (.lst ((fs.map V.str).drop (1 : Int).toNat)) g = some (.lst ((fs.drop 1).map V.str)) := by rw [upd_same, List.map_drop]; rfl
      generalize upd H5 g (.lst ((fs.map V.str).drop (1 : Int).toNat)) = H6 at sg hg ⊢
      have dl : (fs.drop 1).length ≤ fs.length := by rw [List.length_drop]; omega
      refine ⟨g, C, fs.drop 1, ct5, rfl, hg, sg _ _ hC5, fnd.sublist (List.drop_sublist _ _), by omega, fun H7 G s7 nG hG => ?_⟩
      have s57 := sg.trans s7
      have n5 : H5 G = none := Same.free sg nG
      exact ⟨G, rfl, b5.trans (Bt.same s57), hd5.new s57, b5.free (hd5.ne_new n5) n5, (ne_of_none hD5 n5).symm, s57 _ _ hD5, _, hG, (kc5.ord (fnd.sublist (List.drop_sublist _ _))).le (by omega)⟩
    · exact ⟨C, rfl, b5, hd5, C0, CD, hD5, ct5, hC5, kc5⟩
  rintro σ' H6 ⟨C, rfl, b6, hd6, C0, CD, hD6, ct, hC6, kc⟩
  refine ⟨(by show 2 ≤ sizeLine; decide), fun t nt => ?_⟩
  have s := same_new (o := .tup [.ref D, .ref C]) nt
  exact q _ t D C pl ct (b6.trans (Bt.same s)) (hd6.new s) (b6.free (hd6.ne_new nt) nt) nD C0 CD.symm upd_same (s _ _ hD6) (s _ _ hC6) kd kc
end
section
variable {P : Program} {w : World} {K : PySem.W.Frag} {mg : Str → Option Value} {base : Heap}
variable {a_BadRow a_ElseputError a_NoRow a_Table a_Taken a_UnknownField a_UnknownKey a_UnknownName : Addr}
def putV (ks fs zs ys : List Str) (R : List TRow) (pl : Kvs) (put : Bool) : List V := if newOk ks fs zs ys = true then match (if put = true then takenAt R pl ks else none) with
    | some (k, j) => [.str "taken", .str k, .int (j : Int)]
    | none => [.str "let", .int (R.length : Int)]
  else [.str "row"]
theorem PutT.v {H : Hp} {t : Addr} {ks fs zs ys : List Str} {R : List TRow} {pl : Kvs} {put : Bool} (h : PutT H t ks fs zs ys R pl put) : H t = some (.tup (putV ks fs zs ys R pl put)) := by
  unfold PutT at h
  unfold putV
  by_cases ok : newOk ks fs zs ys = true
  · rw [if_pos ok] at h ⊢
    generalize (if put = true then takenAt R pl ks else none) = o at h ⊢
    cases o with
    | none => exact h
    | some q => exact h
  · rw [if_neg ok] at h ⊢
    exact h
theorem putV_is (ks fs zs ys : List Str) (R : List TRow) (pl : Kvs) (put : Bool) : ∃ w xs, putV ks fs zs ys R pl put = .str w :: xs ∧ xs.length ≤ 2 ∧ (∀ x ∈ xs, Fl x) ∧ (w = "let" ↔ Acc ks fs zs ys R pl put) := by
  unfold putV Acc
  by_cases ok : newOk ks fs zs ys = true
  · rw [if_pos ok]
    generalize (if put = true then takenAt R pl ks else none) = o
    cases o with
    | none => exact ⟨_, _, rfl, (by show 1 ≤ 2; decide), fun x hx => by rw [List.mem_singleton.mp hx]; exact .inl ⟨_, rfl⟩, fun _ => ⟨ok, rfl⟩, fun _ => rfl⟩
    | some q =>
      refine ⟨_, _, rfl, Nat.le_refl _, fun x hx => ?_, fun h => absurd h (by decide), fun h => nomatch h.2⟩
      rcases List.mem_cons.mp hx with rfl | hx
      · exact .inr (.inl ⟨_, rfl⟩)
      · rw [List.mem_singleton.mp hx]; exact .inl ⟨_, rfl⟩
  · rw [if_neg ok]
    exact ⟨_, _, rfl, Nat.zero_le _, (fun _ h => nomatch h), fun h => absurd h (by decide), fun h => absurd h.1 ok⟩
theorem same_flatT {H : Hp} {t u : Addr} {w : Str} {xs : List V} {n : Nat} (h1 : H t = some (.tup (.str w :: xs))) (h2 : H u = some (.tup (.str w :: xs))) (hl : xs.length ≤ 2) (hf : ∀ x ∈ xs, Fl x) : SameV K H (n + 2) (.ref t) (.ref u) :=
  same_tupN (SqT.of h1) (SqT.of h2) rfl (by rw [List.length_cons]; omega) fun i a b ha hb => by
    cases ha.symm.trans hb
    rcases List.mem_cons.mp (List.mem_of_getElem? ha) with rfl | h
    · exact same_str _
    · exact same_fl (hf _ h)
theorem RowOk.made {ks fs zs ys : List Str} {pl ct : Kvs} {H : Hp} {p c : Addr} {n : Nat} (h : PutIn H p c ks fs zs ys n pl ct) (hc : Ints ct) (ok : newOk ks fs zs ys = true) : RowOk ks fs (ordK ks pl, ordK fs ct) := by
  obtain ⟨us, e, s, m⟩ := ord_keys (ks := ks) (l := pl)
  refine ⟨⟨us, e, s, ?_⟩, ord_all (h.all ok), ord_ints h.pi, ord_ints hc⟩
  unfold newOk at ok
  rw [Bool.and_eq_true, Bool.and_eq_true, decide_eq_true_iff, List.all_eq_true] at ok
  obtain ⟨z, r, ez⟩ := List.exists_cons_of_ne_nil ok.1
  have zm : z ∈ zs := by rw [ez]; exact List.mem_cons_self
  have := m z (of_decide_eq_true (ok.2.1 z zm)) (key_some (by rw [h.ez]; exact List.mem_map.mpr ⟨z, zm, rfl⟩))
  exact fun e => by rw [e] at this; cases this
theorem dicts_snoc {rs : List Tr} {x : Tr} {b : Addr} : b ∈ dicts (rs ++ [x]) ↔ b ∈ dicts rs ∨ b = x.p ∨ b = x.c := by
  rw [mem_dicts, mem_dicts]
  constructor
  · rintro ⟨y, hy, h⟩
    rcases List.mem_append.mp hy with hy | hy
    · exact .inl ⟨y, hy, h⟩
    · rw [List.mem_singleton.mp hy] at h; exact .inr h
  · rintro (⟨y, hy, h⟩ | h)
    · exact ⟨y, List.mem_append_left _ hy, h⟩
    · exact ⟨x, List.mem_append_right _ List.mem_cons_self, h⟩
theorem fpT_snoc {L F b : Addr} {rs : List Tr} {x : Tr} : b ∈ fpT L F (rs ++ [x]) ↔ b ∈ fpT L F rs ∨ b = x.p ∨ b = x.c := by
  rw [mem_fpT, mem_fpT, dicts_snoc, or_assoc, or_assoc]
theorem fpT_got {K : PySem.W.Frag} {H : Hp} {a L F b : Addr} {ks fs : List Str} {rows : List Tr} (h : TbAt K H a L F ks fs rows) (hb : b ∈ fpT L F rows) : ¬ H b = none := fun n => by
  obtain ⟨_, _, _, _, _, _, _, _, _, _, h5, h6, h7, _⟩ := h
  rcases mem_fpT.mp hb with rfl | rfl | hb
  · rw [n] at h5; cases h5
  · rw [n] at h7; cases h7
  · obtain ⟨_, e⟩ := rows_dict h6 hb
    rw [n] at e; cases e
def sp__law_puts (K : PySem.W.Frag) : Sp := fun vs H Q _ => ∃ (a L F R kk ff pr p c : Addr) (ks fs : List Str) (rows rs : List Tr) (pl ct : Kvs) (word : Str), vs = [.ref a, .ref kk, .ref ff, .ref R, .str word, .ref pr] ∧ Pr K H a L F R ks fs rows rs ∧ H kk = some (.lst (ks.map V.str)) ∧ H ff = some (.lst (fs.map V.str)) ∧ H pr = some (.tup [.ref p, .ref c]) ∧ H p = some (.dK pl) ∧ H c = some (.dK ct) ∧ p ≠ c ∧ Kd pl 50 ∧ Kd ct 4 ∧ (∀ z ∈ ks, z.length ≤ 1000 ∧ Asc z) ∧ rows.length < 100 ∧ ¬ mutS L F R rows kk ∧ ¬ mutS L F R rows ff ∧
  ∀ (H' : Hp) (rows' rs' : List Tr), Go K H H' a L F R ks fs rows rs rows' rs' → rows'.length ≤ rows.length + 1 → Q (.bl true) H'
theorem len__law_puts {vs : List V} {H : Hp} {Q : VK} {E : XK} (h : sp__law_puts K vs H Q E) : vs.length = 6 := by
  obtain ⟨_, _, _, _, _, _, _, _, _, _, _, _, _, _, _, _, rfl, _⟩ := h
  rfl
theorem ok__law_puts {f : Addr} {fd : FuncData} {f__law_put_due : Addr} {fd__law_put_due : FuncData} {f__law_same : Addr} {fd__law_same : FuncData} {f__law_try_put : Addr} {fd__law_try_put : FuncData} {f__law_in_order : Addr} {fd__law_in_order : FuncData} (F : Fun K "_law_puts" "_law_puts" s__law_puts f fd) (T : Gs K mg a_BadRow a_ElseputError a_NoRow a_Table a_Taken a_UnknownField a_UnknownKey a_UnknownName) (c__law_put_due : Cal P w K mg base CX0 1 "_law_put_due" f__law_put_due fd__law_put_due ["_law_keys", "_law_fields", "_law_rows", "_law_word", "_law_places", "_law_content"] (sp__law_put_due K)) (c__law_same : Cal P w K mg base CX0 26 "_law_same" f__law_same fd__law_same ["_law_actual", "_law_due"] (sp__law_same K)) (c__law_try_put : Cal P w K mg base CX0 27 "_law_try_put" f__law_try_put fd__law_try_put ["_law_table", "_law_word", "_law_places", "_law_content"] (sp__law_try_put K)) (c__law_in_order : Cal P w K mg base CX0 1 "_law_in_order" f__law_in_order fd__law_in_order ["_law_names_here", "_law_source"] (sp__law_in_order K)) : FnOk P w K mg base CX0 28 f fd ["_law_table", "_law_keys", "_law_fields", "_law_rows", "_law_word", "_law_pair"] (sp__law_puts K) := by
  refine F.ok sc__law_puts (fun vs H Q E h => len__law_puts h) (fun cdv A outer s H vs Q E hr h => ?_)
  obtain ⟨a, L, F, R, kk, ff, pr, p, c, ks, fs, rows, rs, pl, ct, word, rfl, hP, hkk, hff, hpr, hp, hc, pc, kp, kc, kw, r100, kkn, ffn, q⟩ := h
  refine ⟨_, (pss_cons (ps_set (i := 6) sc__law_puts.nd rfl (.inl rfl) (pe_call c__law_put_due.G (hr.mono (by first | decide | omega)) rfl c__law_put_due.m c__law_put_due.kp c__law_put_due.b .nil pass0 (pa_cons (v_ 1) (pa_cons (v_ 2) (pa_cons (v_ 3) (pa_cons (v_ 4) (pa_cons (e_x K (v_ 5) pe_int) (pa_cons (e_x K (v_ 5) pe_int) pa_nil)))))))) (pss_cons (ps_if (pt_not (pt_t K (pe_call c__law_same.G (hr.mono (by first | decide | omega)) rfl c__law_same.m c__law_same.kp c__law_same.b .nil pass0 (pa_cons (pe_call c__law_try_put.G (hr.mono (by first | decide | omega)) rfl c__law_try_put.m c__law_try_put.kp c__law_try_put.b .nil pass0 (pa_cons (v_ 0) (pa_cons (v_ 4) (pa_cons (e_x K (v_ 5) pe_int) (pa_cons (e_x K (v_ 5) pe_int) pa_nil))))) (pa_cons (v_ 6) pa_nil))))) (pss_one (ps_ret pe_bl)) pss_nil) (Evl.pss_cut (ps_if (pt_c (eqK K hr.units) (e_x K (v_ 6) pe_int) pe_str) (pss_one (ps_expr (pe_bm PySem.F.plainAttrs_list PySem.F.slot_list_append PySem.F.type_list_append mt_append (v_ 3) (pa_cons (pe_tup (pa_cons (pe_call c__law_in_order.G (hr.mono (by first | decide | omega)) rfl c__law_in_order.m c__law_in_order.kp c__law_in_order.b .nil pass0 (pa_cons (v_ 1) (pa_cons (e_x K (v_ 5) pe_int) pa_nil))) (pa_cons (pe_call c__law_in_order.G (hr.mono (by first | decide | omega)) rfl c__law_in_order.m c__law_in_order.kp c__law_in_order.b .nil pass0 (pa_cons (v_ 2) (pa_cons (e_x K (v_ 5) pe_int) pa_nil))) pa_nil))) pa_nil)))) pss_nil) (pss_one (ps_ret pe_bl))))), ?_⟩
  obtain ⟨ws, hR, hws⟩ := hP.wr
  obtain ⟨C, dx, tt, uu, vs, kvs, hC, ha, ht, hu, hL, hrw, hF, hk⟩ := id hP.T
  obtain ⟨zs, ez, zn, pi, zl⟩ := id kp
  obtain ⟨ys, ey, yn, ci, yl⟩ := id kc
  have pln := kp.len
  have ctn := kc.len
  have f4 := hP.ok.f4
  have rl : rs.length = rows.length := by
    have := congrArg List.length hP.e
    rwa [List.length_map, List.length_map] at this
  have wl := hws.len
  have pi1 : PutIn H p c ks fs zs ys rows.length pl ct := ⟨hp, hc, ez, ey, pi, by omega, by omega, yn, hP.ok.knd, hP.ok.k4, hP.ok.fnd, by omega, by omega⟩
  have pi0 : PutIn H p c ks fs zs ys rs.length pl ct := by rw [rl]; exact pi1
  have hin : ∀ x ∈ rs, Ints x.r.1 := fun x hx => (hP.ok.ro x.r (by rw [← hP.e]; exact List.mem_map.mpr ⟨x, hx, rfl⟩)).pi
  have p0 : atI [V.ref p, .ref c] (0 : Int) = some (.ref p) := rfl
  have p1 : atI [V.ref p, .ref c] (1 : Int) = some (.ref c) := rfl
  refine ⟨_, .inr (SqT.of hpr), _, p0, _, .inr (SqT.of hpr), _, p1, kk, ff, R, p, c, ks, fs, zs, ys, ws, rs, pl, ct, word, rfl, hkk, hff, hR, hws, hin, pi0, fun H1 d s1 pt => ?_⟩
  rw [hP.e] at pt
  have hd := pt.v
  obtain ⟨w, xs, ew, xl, xf, wa⟩ := putV_is ks fs zs ys (rows.map (·.r)) pl (decide (word = "put"))
  rw [ew] at hd
  have d0 : atI (.str w :: xs) (0 : Int) = some (.str w) := atI_nat (j := 0) rfl
  refine ⟨_, .inr (SqT.of (s1 _ _ hpr)), _, p0, _, .inr (SqT.of (s1 _ _ hpr)), _, p1, a, L, F, p, c, ks, fs, zs, ys, rows, pl, ct, word, rfl, hP.T.same s1, pi1.same s1, ci, kw, pc, fun H2 t s2 na pt2 => ?_, fun H2 t x f2 ac n1 n2 ne ex hT2 pt2 => ?_⟩
  · have ht2 := pt2.v
    rw [ew] at ht2
    refine ⟨_, _, rfl, same_flatT (n := 22) ht2 (s2 _ _ hd) xl xf, ?_⟩
    refine ⟨fun σ' H' => H' = H2, ?_, ?_⟩
    · refine ⟨_, .inr (SqT.of (s2 _ _ hd)), _, d0, ?_⟩
      exact ite2 (fun e => absurd (wa.mp (of_decide_eq_true e)) na) (fun _ => rfl)
    rintro σ' H3 rfl
    exact q _ rows rs (Go.same hP (s1.trans s2)) (by omega)
  · have kD : ∀ {b o}, H1 b = some o → (∀ l, o ≠ .lst l) → (∀ l, o ≠ .dT l) → H2 b = some o := fun {b o} hb m1 m2 => f2 _ _ (fun n => by
      rcases n with n | n
      · rw [n, s1 _ _ hL] at hb; exact m1 _ (Option.some.inj hb).symm
      · rw [n, s1 _ _ hF] at hb; exact m2 _ (Option.some.inj hb).symm) hb
    have hd2 := kD hd (fun _ z => nomatch z) (fun _ z => nomatch z)
    have ht2 := pt2.v
    rw [ew] at ht2
    refine ⟨_, _, rfl, same_flatT (n := 22) ht2 hd2 xl xf, ?_⟩
    have RF : R ≠ F := fun e => by rw [e, hF] at hR; cases hR
    have hR2 : H2 R = some (.lst ws) := f2 _ _ (fun n => n.elim hP.RL RF) (s1 _ _ hR)
    have kL : ∀ {b}, ¬ mutS L F R rows b → ¬ (b = L ∨ b = F) := fun {b} h n => h (.inr (mem_fpT.mpr (n.elim .inl fun e => .inr (.inl e))))
    have hkk2 : H2 kk = some (.lst (ks.map V.str)) := f2 _ _ (kL kkn) (s1 _ _ hkk)
    have hff2 : H2 ff = some (.lst (fs.map V.str)) := f2 _ _ (kL ffn) (s1 _ _ hff)
    have hpr2 := kD (s1 _ _ hpr) (fun _ z => nomatch z) (fun _ z => nomatch z)
    have hp2 := kD (s1 _ _ hp) (fun _ z => nomatch z) (fun _ z => nomatch z)
    have hc2 := kD (s1 _ _ hc) (fun _ z => nomatch z) (fun _ z => nomatch z)
    have ht2L := hT2
    have g12 : Fr (mutS L F R rows) H H2 := fun b o n hb => f2 _ _ (kL n) (s1 _ _ hb)
    have l2 : ∀ b, H2 b = none → H b = none := fun b hb => by
      cases e : H b with
      | none => rfl
      | some o =>
        by_cases m : b = L ∨ b = F
        · exact absurd hb (fpT_got hT2 (mem_fpT.mpr (m.elim .inl fun e => .inr (.inl e))))
        · rw [f2 _ _ m (s1 _ _ e)] at hb; cases hb
    refine ⟨fun σ' H' => ∃ rows' rs', Go K H H' a L F R ks fs rows rs rows' rs' ∧ rows'.length ≤ rows.length + 1, ?_, ?_⟩
    · refine ⟨_, .inr (SqT.of hd2), _, d0, ?_⟩
      refine ite2 (fun _ => ?_) (fun e => absurd (decide_eq_true (wa.mpr ac)) e)
      refine ⟨.inl ⟨rfl, _, SqL.of hR2⟩, ?_⟩
      refine ⟨_, .inr (SqT.of hpr2), _, p0, kk, p, ks, pl, rfl, hkk2, hp2, hP.ok.knd, by have := hP.ok.k4; omega, fun H3 A s3 nA hA => ?_⟩
      refine ⟨_, .inr (SqT.of (s3 _ _ hpr2)), _, p1, ff, c, fs, ct, rfl, s3 _ _ hff2, s3 _ _ hc2, hP.ok.fnd, by omega, fun H4 B s4 nB hB => ?_⟩
      refine ⟨(by show 2 ≤ sizeLine; decide), fun u nu => ?_⟩
      have s5 := same_new (o := .tup [.ref A, .ref B]) nu
      have hu5 := upd_same (H := H4) (a := u) (o := .tup [.ref A, .ref B])
      generalize upd H4 u (.tup [.ref A, .ref B]) = H5 at s5 hu5 ⊢
      have s25 := s3.trans (s4.trans s5)
      have hA5 := s5 _ _ (s4 _ _ hA)
      have hB5 := s5 _ _ hB
      have A2 : H2 A = none := nA
      have B2 : H2 B = none := Same.free s3 nB
      have AR : A ≠ R := fun e => by rw [e, hR2] at A2; cases A2
      have BR : B ≠ R := fun e => by rw [e, hR2] at B2; cases B2
      have uR : u ≠ R := fun e => by rw [e, s25 _ _ hR2] at hu5; cases hu5
      have hR5 := s25 _ _ hR2
      refine ⟨R, ws, .ref u, rfl, rfl, hR5, line_lt (by omega), rows ++ [x], rs ++ [⟨A, B, x.r⟩], ?_, by rw [List.length_append]; exact Nat.le_refl _⟩
      have fR : Fr (fun b => b = R) H5 (upd H5 R (.lst (ws ++ [.ref u]))) := fun b o n hb => by rw [upd_ne n]; exact hb
      have muR : ∀ b, b = R → MutO (H5 b) := fun b e => by rw [e, hR5]; trivial
      have g6 : Fr (mutS L F R rows) H (upd H5 R (.lst (ws ++ [.ref u]))) := fun b o n hb => fR _ _ (fun e => n (.inl e)) (s25 _ _ (g12 _ _ n hb))
      have xl : x.r.1 = ordK ks pl := by rw [ex]
      have xr : x.r.2 = ordK fs ct := by rw [ex]
      have Rx : R ≠ x.p ∧ R ≠ x.c := ⟨(fun e => by rw [← e, s1 _ _ hR] at n1; cases n1), (fun e => by rw [← e, s1 _ _ hR] at n2; cases n2)⟩
      have Rno : R ∉ fpT L F (rows ++ [x]) := fun h => by
        rcases fpT_snoc.mp h with h | h | h
        · rcases mem_fpT.mp h with h | h | h
          · exact hP.RL h
          · exact RF h
          · obtain ⟨_, e⟩ := rows_dict hrw h
            rw [hR] at e; cases e
        · exact Rx.1 h
        · exact Rx.2 h
      have dR : ∀ b ∈ dicts rs, ¬ mutS L F R rows b := fun b hb n => by
        rcases n with n | n
        · obtain ⟨_, e⟩ := rows_dict hws hb
          rw [n, hR] at e; cases e
        · exact hP.dj b hb n
      have hx0 : H x.p = none := Same.free s1 n1
      have hx1 : H x.c = none := Same.free s1 n2
      refine ⟨g6, ⟨?_, ?_, ?_, ?_, ?_, hP.RL, ?_⟩, ?_, ?_, ?_⟩
      · exact (hT2.same s25).keep fR (fun b hb e => Rno (e ▸ hb)) muR
      · refine ⟨_, upd_same, (rows_keep hws g6 dR hP.mu).snoc ⟨u, rfl, by rw [upd_ne uR]; exact hu5, ?_, ?_⟩⟩
        · show upd H5 R _ A = some (.dK x.r.1)
          rw [upd_ne AR, xl]; exact hA5
        · show upd H5 R _ B = some (.dK x.r.2)
          rw [upd_ne BR, xr]; exact hB5
      · rw [List.map_append, List.map_append, hP.e]
        rfl
      · refine hP.nd.snoc ne fun y hy => ?_
        have yp : ∀ b, b = y.p ∨ b = y.c → ¬ H b = none := fun b hb => hP.got (mem_useS.mpr (.inl (.inr (mem_fpT.mpr (.inr (.inr (mem_dicts.mpr ⟨y, hy, hb⟩)))))))
        exact ⟨fun e => yp _ (.inl rfl) (e ▸ hx0), fun e => yp _ (.inl rfl) (e ▸ hx1), fun e => yp _ (.inr rfl) (e ▸ hx0), fun e => yp _ (.inr rfl) (e ▸ hx1)⟩
      · have ok := hP.ok
        refine ⟨ok.knd, ok.k4, ok.fnd, ok.f4, fun r hr => ?_, by rw [List.length_map, List.length_append]; show rows.length + 1 ≤ 100; omega⟩
        rw [List.map_append] at hr
        rcases List.mem_append.mp hr with hr | hr
        · exact ok.ro r hr
        · rw [List.mem_singleton.mp hr]
          show RowOk ks fs x.r
          rw [ex]
          exact RowOk.made pi1 ci ac.1
      · intro b hb m
        rcases dicts_snoc.mp hb with hb | hb | hb
        · rcases fpT_snoc.mp m with m | m | m
          · exact hP.dj b hb m
          · exact hP.got (mem_useS.mpr (.inr hb)) (m ▸ hx0)
          · exact hP.got (mem_useS.mpr (.inr hb)) (m ▸ hx1)
        · exact fpT_got hT2 m (hb ▸ A2)
        · exact fpT_got hT2 m (hb ▸ B2)
      · rintro b (hb | hb)
        · exact .inl (.inl hb)
        · rcases fpT_snoc.mp hb with hb | hb | hb
          · exact .inl (.inr hb)
          · exact .inr (hb ▸ hx0)
          · exact .inr (hb ▸ hx1)
      · intro b hb
        rcases mem_useS.mp hb with (hb | hb) | hb
        · exact .inl (mem_useS.mpr (.inl (.inl hb)))
        · rcases fpT_snoc.mp hb with hb | hb | hb
          · exact .inl (mem_useS.mpr (.inl (.inr hb)))
          · exact .inr (hb ▸ hx0)
          · exact .inr (hb ▸ hx1)
        · rcases dicts_snoc.mp hb with hb | hb | hb
          · exact .inl (mem_useS.mpr (.inr hb))
          · exact .inr (hb ▸ l2 _ A2)
          · exact .inr (hb ▸ l2 _ B2)
      · intro b hb
        have hb := free_new hb
        exact l2 b (Same.free s25 hb)
    rintro σ' H' ⟨rows', rs', g, gl⟩
    exact q _ rows' rs' g gl
end
section
variable {P : Program} {w : World} {K : PySem.W.Frag} {mg : Str → Option Value} {base : Heap}
variable {a_BadRow a_ElseputError a_NoRow a_Table a_Taken a_UnknownField a_UnknownKey a_UnknownName : Addr}
theorem ixN_of {n i : Nat} (h : i < n) : ixN n (i : Int) = some i := by
  unfold ixN
  rw [if_pos (by omega), if_pos (by omega), Int.toNat_natCast]
def wrV (fs : List Str) (n : Nat) (i : Int) (f : Str) : List V := if 0 ≤ i ∧ i < (n : Int) then if f ∈ fs then [.str "let", .non] else [.str "field", .str f] else [.str "norow", .int i]
theorem WrT.v {H : Hp} {t : Addr} {fs : List Str} {n : Nat} {i : Int} {f : Str} (h : WrT H t fs n i f) : H t = some (.tup (wrV fs n i f)) := by
  unfold WrT at h
  unfold wrV
  by_cases c : 0 ≤ i ∧ i < (n : Int)
  · rw [if_pos c] at h ⊢
    by_cases m : f ∈ fs
    · rw [if_pos m] at h ⊢; exact h
    · rw [if_neg m] at h ⊢; exact h
  · rw [if_neg c] at h ⊢
    exact h
theorem wrV_is (fs : List Str) (n : Nat) (i : Int) (f : Str) : ∃ w xs, wrV fs n i f = .str w :: xs ∧ xs.length ≤ 2 ∧ (∀ x ∈ xs, Fl x) ∧ (w = "let" ↔ ((0 ≤ i ∧ i < (n : Int)) ∧ f ∈ fs)) := by
  unfold wrV
  by_cases c : 0 ≤ i ∧ i < (n : Int)
  · rw [if_pos c]
    by_cases m : f ∈ fs
    · rw [if_pos m]
      exact ⟨_, _, rfl, (by show 1 ≤ 2; decide), fun x hx => by rw [List.mem_singleton.mp hx]; exact .inr (.inr (.inr rfl)), fun _ => ⟨c, m⟩, fun _ => rfl⟩
    · rw [if_neg m]
      exact ⟨_, _, rfl, (by show 1 ≤ 2; decide), fun x hx => by rw [List.mem_singleton.mp hx]; exact .inr (.inl ⟨_, rfl⟩), fun h => absurd h (by decide), fun h => absurd h.2 m⟩
  · rw [if_neg c]
    exact ⟨_, _, rfl, (by show 1 ≤ 2; decide), fun x hx => by rw [List.mem_singleton.mp hx]; exact .inl ⟨_, rfl⟩, fun h => absurd h (by decide), fun h => absurd h.1 c⟩
def pcs (rows : List Tr) : List (Addr × Addr) := rows.map fun x => (x.p, x.c)
theorem dicts_pcs (rows : List Tr) : dicts rows = (pcs rows).flatMap fun q => [q.1, q.2] := by
  unfold dicts pcs
  rw [List.flatMap_map]
theorem nd_pcs (rows : List Tr) : Nd rows ↔ (∀ q ∈ pcs rows, q.1 ≠ q.2) ∧ (pcs rows).Pairwise fun x y => x.1 ≠ y.1 ∧ x.1 ≠ y.2 ∧ x.2 ≠ y.1 ∧ x.2 ≠ y.2 := by
  unfold Nd pcs
  rw [List.pairwise_map]
  constructor
  · rintro ⟨a, b⟩
    exact ⟨fun q hq => by obtain ⟨x, hx, rfl⟩ := List.mem_map.mp hq; exact a x hx, b⟩
  · rintro ⟨a, b⟩
    exact ⟨fun x hx => a _ (List.mem_map.mpr ⟨x, hx, rfl⟩), b⟩
theorem pcs_set {rows : List Tr} {j : Nat} {x : Tr} {r : TRow} (e : rows[j]? = some x) : pcs (rows.set j ⟨x.p, x.c, r⟩) = pcs rows := by
  unfold pcs
  rw [List.map_set]
  refine set_self ?_
  rw [List.getElem?_map, e]
  rfl
theorem dicts_set {rs : List Tr} {j : Nat} {z : Tr} {b : Addr} (h : b ∈ dicts (rs.set j z)) : b ∈ dicts rs ∨ b = z.p ∨ b = z.c := by
  obtain ⟨y, hy, h⟩ := mem_dicts.mp h
  rcases List.mem_or_eq_of_mem_set hy with hy | e
  · exact .inl (mem_dicts.mpr ⟨y, hy, h⟩)
  · rw [e] at h; exact .inr h
theorem RowOk.put {ks fs : List Str} {r : TRow} {f : Str} {n : Int} (h : RowOk ks fs r) (hf : f ∈ fs) : RowOk ks fs (r.1, putK r.2 (kS f) (.int n)) :=
  ⟨h.pk, (put_keys (key_some (by rw [h.ck]; exact List.mem_map.mpr ⟨f, hf, rfl⟩))).trans h.ck, h.pi, put_ints h.ci⟩
theorem all2_set2 {α : Type} {R : V → α → Prop} {vs : List V} {as : List α} (h : All2 R vs as) : ∀ {j : Nat} {v : V} {x : α}, R v x → All2 R (vs.set j v) (as.set j x) := by
  induction h with
  | nil => intro j v x _; exact .nil
  | cons a b ih =>
    intro j v x r
    cases j with
    | zero => exact .cons r b
    | succ j => exact .cons a (ih r)
def sp__law_writes (K : PySem.W.Frag) : Sp := fun vs H Q _ => ∃ (a L F R ff : Addr) (ks fs : List Str) (rows rs : List Tr) (i n : Int) (f : Str), vs = [.ref a, .ref ff, .ref R, .int i, .str f, .int n] ∧ Pr K H a L F R ks fs rows rs ∧ H ff = some (.lst (fs.map V.str)) ∧ i.natAbs < 2 ^ 200 ∧ f.length ≤ 1000 ∧ Asc f ∧
  ∀ (H' : Hp) (rows' rs' : List Tr), Go K H H' a L F R ks fs rows rs rows' rs' → rows'.length = rows.length → Q (.bl true) H'
theorem len__law_writes {vs : List V} {H : Hp} {Q : VK} {E : XK} (h : sp__law_writes K vs H Q E) : vs.length = 6 := by
  obtain ⟨_, _, _, _, _, _, _, _, _, _, _, _, rfl, _⟩ := h
  rfl
theorem ok__law_writes {f : Addr} {fd : FuncData} {f__law_same : Addr} {fd__law_same : FuncData} {f__law_try_write : Addr} {fd__law_try_write : FuncData} (F : Fun K "_law_writes" "_law_writes" s__law_writes f fd) (T : Gs K mg a_BadRow a_ElseputError a_NoRow a_Table a_Taken a_UnknownField a_UnknownKey a_UnknownName) (c__law_same : Cal P w K mg base CX0 26 "_law_same" f__law_same fd__law_same ["_law_actual", "_law_due"] (sp__law_same K)) (c__law_try_write : Cal P w K mg base CX0 5 "_law_try_write" f__law_try_write fd__law_try_write ["_law_table", "_law_row", "_law_field", "_law_number_here"] (sp__law_try_write K)) : FnOk P w K mg base CX0 27 f fd ["_law_table", "_law_fields", "_law_rows", "_law_row", "_law_field", "_law_number_here"] (sp__law_writes K) := by
  refine F.ok sc__law_writes (fun vs H Q E h => len__law_writes h) (fun cdv A outer s H vs Q E hr h => ?_)
  obtain ⟨a, L, F, R, ff, ks, fs, rows, rs, i, n, f, rfl, hP, hff, hi, fl, fa, q⟩ := h
  refine ⟨_, (pss_cons (ps_set (i := 6) sc__law_writes.nd rfl (.inl rfl) (pe_tup (pa_cons pe_str (pa_cons pe_non pa_nil)))) (Evl.pss_cut (ps_if (pt_c (notInK K) (v_ 4) (v_ 1)) (pss_one (ps_set (i := 6) sc__law_writes.nd rfl (.inl rfl) (pe_tup (pa_cons pe_str (pa_cons (v_ 4) pa_nil))))) pss_nil) (Evl.pss_cut (ps_if (PW.pt (pw_or (pt_c op_ltM (v_ 3) pe_int) (pw_or1 (pt_c op_geM (v_ 3) (pe_callB (lenK K) (by rfl) T.z_len PySem.boot_len (pa_cons (v_ 2) pa_nil)))))) (pss_one (ps_set (i := 6) sc__law_writes.nd rfl (.inl rfl) (pe_tup (pa_cons pe_str (pa_cons (v_ 3) pa_nil))))) pss_nil) (pss_cons (ps_if (pt_not (pt_t K (pe_call c__law_same.G (hr.mono (by first | decide | omega)) rfl c__law_same.m c__law_same.kp c__law_same.b .nil pass0 (pa_cons (pe_call c__law_try_write.G (hr.mono (by first | decide | omega)) rfl c__law_try_write.m c__law_try_write.kp c__law_try_write.b .nil pass0 (pa_cons (v_ 0) (pa_cons (v_ 3) (pa_cons (v_ 4) (pa_cons (v_ 5) pa_nil))))) (pa_cons (v_ 6) pa_nil))))) (pss_one (ps_ret pe_bl)) pss_nil) (Evl.pss_cut (ps_if (pt_c (eqK K hr.units) (e_x K (v_ 6) pe_int) pe_str) (pss_cons (ps_set (i := 7) sc__law_writes.nd rfl (.inl rfl) (pe_callTy call_dictD (by rfl) T.z_dict (by decide +kernel) (pa_cons (e_x K (e_x K (v_ 2) (v_ 3)) pe_int) pa_nil))) (pss_cons (ps_asg (v_ 5) (pg_sub (v_ 7) (v_ 4) (set_dict (hu_of hr)))) (pss_one (ps_asg (pe_tup (pa_cons (e_x K (e_x K (v_ 2) (v_ 3)) pe_int) (pa_cons (v_ 7) pa_nil))) (pg_sub (v_ 2) (v_ 3) set_list))))) pss_nil) (pss_one (ps_ret pe_bl))))))), ?_⟩
  obtain ⟨ws, hR, hws⟩ := hP.wr
  obtain ⟨C, dx, tt, uu, vs, kvs, hC, ha, ht, hu, hL, hrw, hF, hk⟩ := id hP.T
  have rl : rs.length = rows.length := by
    have := congrArg List.length hP.e
    rwa [List.length_map, List.length_map] at this
  have wl := hws.len
  have f4 := hP.ok.f4
  have cl : ∀ x ∈ rows, x.r.2.length ≤ 1000 := fun x hx => by
    have := (hP.ok.ro x.r (List.mem_map.mpr ⟨x, hx, rfl⟩)).len
    omega
  refine ⟨(by show 2 ≤ sizeLine; decide), fun d0 nd0 => ?_⟩
  have s0 := same_new (o := .tup [.str "let", .non]) nd0
  have hd0 := upd_same (H := H) (a := d0) (o := .tup [.str "let", .non])
  generalize upd H d0 (.tup [.str "let", .non]) = H0 at s0 hd0 ⊢
  refine ⟨fun σ' H' => ∃ d, σ' = [some (.ref a), some (.ref ff), some (.ref R), some (.int i), some (.str f), some (.int n), some (.ref d), none] ∧ Same H H' ∧ H' d = some (.tup (if f ∈ fs then [.str "let", .non] else [.str "field", .str f])), ?_, ?_⟩
  · refine ⟨_, .inl (SqL.of (s0 _ _ hff)), rfl, flat_strs, ?_⟩
    have e3 : inV (.str f) (fs.map V.str) = decide (f ∈ fs) := inV_str
    rw [e3]
    refine ite2 (fun m => ?_) (fun m => ?_)
    · have m : f ∉ fs := by simpa using m
      refine ⟨(by show 2 ≤ sizeLine; decide), fun t nt => ?_⟩
      exact ⟨t, rfl, s0.trans (same_new nt), by rw [if_neg m]; exact upd_same⟩
    · have m : f ∈ fs := by simpa using m
      exact ⟨d0, rfl, s0, by rw [if_pos m]; exact hd0⟩
  rintro σ' H1 ⟨d1, rfl, s1, hd1⟩
  refine ⟨fun σ' H' => ∃ d, σ' = [some (.ref a), some (.ref ff), some (.ref R), some (.int i), some (.str f), some (.int n), some (.ref d), none] ∧ Same H H' ∧ H' d = some (.tup (wrV fs rows.length i f)), ?_, ?_⟩
  · refine ite2 (fun c => ?_) (fun c => ?_)
    · have c : i < 0 := of_decide_eq_true c
      refine ⟨(by show 2 ≤ sizeLine; decide), fun t nt => ?_⟩
      refine ⟨t, rfl, s1.trans (same_new nt), ?_⟩
      unfold wrV
      rw [if_neg (by omega)]
      exact upd_same
    · have c : ¬ i < 0 := fun h => c (decide_eq_true h)
      refine .inl ⟨_, .inl (SqL.of (s1 _ _ hR)), ?_⟩
      refine ite2 (fun c2 => ?_) (fun c2 => ?_)
      · have c2 : (ws.length : Int) ≤ i := of_decide_eq_true c2
        refine ⟨(by show 2 ≤ sizeLine; decide), fun t nt => ?_⟩
        refine ⟨t, rfl, s1.trans (same_new nt), ?_⟩
        unfold wrV
        rw [if_neg (by omega)]
        exact upd_same
      · have c2 : ¬ (ws.length : Int) ≤ i := fun h => c2 (decide_eq_true h)
        refine ⟨d1, rfl, s1, ?_⟩
        unfold wrV
        rw [if_pos (by omega)]
        by_cases m : f ∈ fs
        · rw [if_pos m] at hd1 ⊢; exact hd1
        · rw [if_neg m] at hd1 ⊢; exact hd1
  clear hd1 s1 d1 hd0 s0 nd0 d0
  rintro σ' H1 ⟨d, rfl, s1, hd⟩
  obtain ⟨w, xs, ew, xl, xf, wa⟩ := wrV_is fs rows.length i f
  rw [ew] at hd
  have dd : atI (.str w :: xs) (0 : Int) = some (.str w) := atI_nat (j := 0) rfl
  refine ⟨a, L, F, ks, fs, rows, i, n, f, rfl, hP.T.same s1, hP.nd, hi, fl, fa, cl, fun H2 t s2 na wt => ?_, fun j x ej ex m H2 t b2 hT2 wt => ?_⟩
  · have ht := wt.v
    rw [ew] at ht
    refine ⟨_, _, rfl, same_flatT (n := 22) ht (s2 _ _ hd) xl xf, ?_⟩
    refine ⟨fun σ' H' => H' = H2, ?_, ?_⟩
    · refine ⟨_, .inr (SqT.of (s2 _ _ hd)), _, dd, ?_⟩
      exact ite2 (fun e => absurd (wa.mp (of_decide_eq_true e)) na) (fun _ => rfl)
    rintro σ' H3 rfl
    exact q _ rows rs (Go.same hP (s1.trans s2)) rfl
  · subst ej
    obtain ⟨_, _, _, _, _, hxp, hxc⟩ := hrw.to ex
    have jl := (List.getElem?_eq_some_iff.mp ex).1
    obtain ⟨y, ey⟩ : ∃ y, rs[j]? = some y := ⟨_, List.getElem?_eq_getElem (by omega)⟩
    have yx : y.r = x.r := map_at hP.e ey ex
    obtain ⟨v, ev, u0, rfl, k1, k2, k3⟩ := hws.to ey
    have iw : atI ws (j : Int) = some (.ref u0) := atI_nat ev
    have y0 : atI [V.ref y.p, .ref y.c] (0 : Int) = some (.ref y.p) := rfl
    have y1 : atI [V.ref y.p, .ref y.c] (1 : Int) = some (.ref y.c) := rfl
    have xm : ∀ b, b = x.p ∨ b = x.c → b ∈ fpT L F rows := fun b hb => mem_fpT.mpr (.inr (.inr (mem_dicts.mpr ⟨x, List.mem_of_getElem? ex, hb⟩)))
    have ym : ∀ b, b = y.p ∨ b = y.c → b ∈ dicts rs := fun b hb => mem_dicts.mpr ⟨y, List.mem_of_getElem? ey, hb⟩
    have nx : ∀ {b o}, H b = some o → (∀ l, o ≠ .dK l) → b ≠ x.c := fun {b o} hb n e => by
      rw [e, hxc] at hb
      exact n _ (Option.some.inj hb).symm
    have hd2 : H2 d = some (.tup (.str w :: xs)) := b2 _ _ (fun e => by rw [e, s1 _ _ hxc] at hd; cases hd) hd
    have ht := wt.v
    rw [ew] at ht
    refine ⟨_, _, rfl, same_flatT (n := 22) ht hd2 xl xf, ?_⟩
    have wa2 := wa.mpr ⟨by omega, m⟩
    have hR2 : H2 R = some (.lst ws) := b2 _ _ (nx hR (fun _ z => nomatch z)) (s1 _ _ hR)
    have k12 := b2 _ _ (nx k1 (fun _ z => nomatch z)) (s1 _ _ k1)
    have yc : ∀ b, b = y.p ∨ b = y.c → b ≠ x.c := fun b hb e => hP.dj b (ym b hb) (xm b (.inr e))
    have k22 := b2 _ _ (yc _ (.inl rfl)) (s1 _ _ k2)
    have k32 := b2 _ _ (yc _ (.inr rfl)) (s1 _ _ k3)
    have fr2 : Fr (fun b => b = x.c) H H2 := fun b o n hb => b2 _ _ n (s1 _ _ hb)
    have l2 : ∀ b, H2 b = none → H b = none := fun b hb => by
      cases e : H b with
      | none => rfl
      | some o =>
        by_cases m : b = x.c
        · refine absurd hb (fpT_got hT2 ?_)
          rw [mem_fpT, dicts_pcs, pcs_set ex, ← dicts_pcs, ← mem_fpT]
          exact xm b (.inr m)
        · rw [fr2 _ _ m e] at hb; cases hb
    refine ⟨fun σ' H' => ∃ rows' rs', Go K H H' a L F R ks fs rows rs rows' rs' ∧ rows'.length = rows.length, ?_, ?_⟩
    · refine ⟨_, .inr (SqT.of hd2), _, dd, ?_⟩
      refine ite2 (fun _ => ?_) (fun e => absurd (decide_eq_true wa2) e)
      refine ⟨_, .inl (SqL.of hR2), _, iw, _, .inr (SqT.of k12), _, y1, y.c, _, rfl, .inl k32, fun D nD => ?_⟩
      have s3 := same_new (o := .dK y.r.2) nD
      have hD3 := upd_same (H := H2) (a := D) (o := .dK y.r.2)
      generalize upd H2 D (.dK y.r.2) = H3 at s3 hD3 ⊢
      have l4 : y.r.2.length ≤ 4 := by
        have := (hP.ok.ro x.r (List.mem_map.mpr ⟨x, List.mem_of_getElem? ex, rfl⟩)).len
        rw [yx]; omega
      refine ⟨D, _, rfl, DPut.k (k := kS f) hD3 (line_lt (by omega)), ?_⟩
      have s4 : Same H2 (upd H3 D (.dK (putK y.r.2 (kS f) (.int n)))) := fun b o hb => by rw [upd_ne (ne_of_none hb nD)]; exact s3 _ _ hb
      have hD4 := upd_same (H := H3) (a := D) (o := .dK (putK y.r.2 (kS f) (.int n)))
      show (fun H4 => _) (upd H3 D (.dK (putK y.r.2 (kS f) (.int n))))
      generalize upd H3 D (.dK (putK y.r.2 (kS f) (.int n))) = H4 at s4 hD4 ⊢
      refine ⟨_, .inl (SqL.of (s4 _ _ hR2)), _, iw, _, .inr (SqT.of (s4 _ _ k12)), _, y0, (by show 2 ≤ sizeLine; decide), fun u nu => ?_⟩
      have s5 := same_new (o := .tup [.ref y.p, .ref D]) nu
      have hu5 := upd_same (H := H4) (a := u) (o := .tup [.ref y.p, .ref D])
      generalize upd H4 u (.tup [.ref y.p, .ref D]) = H5 at s5 hu5 ⊢
      have s25 := s4.trans s5
      have hR5 := s25 _ _ hR2
      have hD5 := s5 _ _ hD4
      have DR : D ≠ R := fun e => by rw [e, hR2] at nD; cases nD
      have uR : u ≠ R := fun e => by rw [e, hR5] at hu5; cases hu5
      have RF : R ≠ F := fun e => by rw [e, hF] at hR; cases hR
      refine ⟨R, ws, j, j, rfl, rfl, hR5, ixN_of (by omega), rows.set j ⟨x.p, x.c, (x.r.1, putK x.r.2 (kS f) (.int n))⟩, rs.set j ⟨y.p, D, (x.r.1, putK x.r.2 (kS f) (.int n))⟩, ?_, by rw [List.length_set]⟩
      have fR : Fr (fun b => b = R) H5 (upd H5 R (.lst (ws.set j (.ref u)))) := fun b o n hb => by rw [upd_ne n]; exact hb
      have muR : ∀ b, b = R → MutO (H5 b) := fun b e => by rw [e, hR5]; trivial
      have g6 : Fr (mutS L F R rows) H (upd H5 R (.lst (ws.set j (.ref u)))) := fun b o n hb => fR _ _ (fun e => n (.inl e)) (s25 _ _ (fr2 _ _ (fun e => n (.inr (xm b (.inr e)))) hb))
      have fe : ∀ b, b ∈ fpT L F (rows.set j ⟨x.p, x.c, (x.r.1, putK x.r.2 (kS f) (.int n))⟩) ↔ b ∈ fpT L F rows := fun b => by
        rw [mem_fpT, dicts_pcs, pcs_set ex, ← dicts_pcs, ← mem_fpT]
      have Rno : R ∉ fpT L F rows := fun h => by
        rcases mem_fpT.mp h with h | h | h
        · exact hP.RL h
        · exact RF h
        · obtain ⟨_, e⟩ := rows_dict hrw h
          rw [hR] at e; cases e
      have dR : ∀ b ∈ dicts rs, ¬ mutS L F R rows b := fun b hb n => by
        rcases n with n | n
        · obtain ⟨_, e⟩ := rows_dict hws hb
          rw [n, hR] at e; cases e
        · exact hP.dj b hb n
      have yR : y.p ≠ R := fun e => dR _ (ym _ (.inl rfl)) (.inl e)
      refine ⟨g6, ⟨?_, ?_, ?_, ?_, ?_, hP.RL, ?_⟩, ?_, ?_, ?_⟩
      · exact (hT2.same s25).keep fR (fun b hb e => Rno ((fe R).mp (e ▸ hb))) muR
      · refine ⟨_, upd_same, ?_⟩
        refine all2_set2 (rows_keep hws g6 dR hP.mu) ⟨u, rfl, by rw [upd_ne uR]; exact hu5, ?_, ?_⟩
        · show upd H5 R _ y.p = some (.dK x.r.1)
          rw [upd_ne yR, ← yx]; exact s25 _ _ k22
        · show upd H5 R _ D = some (.dK (putK x.r.2 (kS f) (.int n)))
          rw [upd_ne DR, ← yx]; exact hD5
      · rw [List.map_set, List.map_set, hP.e]
      · rw [nd_pcs, pcs_set ex, ← nd_pcs]
        exact hP.nd
      · have ok := hP.ok
        refine ⟨ok.knd, ok.k4, ok.fnd, ok.f4, fun r hr => ?_, by rw [List.length_map, List.length_set, ← List.length_map (f := (·.r))]; exact ok.n1000⟩
        rw [List.map_set] at hr
        rcases List.mem_or_eq_of_mem_set hr with hr | rfl
        · exact ok.ro r hr
        · exact (ok.ro x.r (List.mem_map.mpr ⟨x, List.mem_of_getElem? ex, rfl⟩)).put m
      · intro b hb mm
        have mm := (fe b).mp mm
        rcases dicts_set hb with hb | hb | hb
        · exact hP.dj b hb mm
        · exact hP.dj b (ym b (.inl hb)) mm
        · exact fpT_got hP.T mm (l2 _ (hb ▸ nD))
      · rintro b (hb | hb)
        · exact .inl (.inl hb)
        · exact .inl (.inr ((fe b).mp hb))
      · intro b hb
        rcases mem_useS.mp hb with (hb | hb) | hb
        · exact .inl (mem_useS.mpr (.inl (.inl hb)))
        · exact .inl (mem_useS.mpr (.inl (.inr ((fe b).mp hb))))
        · rcases dicts_set hb with hb | hb | hb
          · exact .inl (mem_useS.mpr (.inr hb))
          · exact .inl (mem_useS.mpr (.inr (ym b (.inl hb))))
          · exact .inr (l2 _ (hb ▸ nD))
      · intro b hb
        exact l2 b (Same.free s25 (free_new hb))
    rintro σ' H' ⟨rows', rs', g, gl⟩
    exact q _ rows' rs' g gl
end
section
variable {P : Program} {w : World} {K : PySem.W.Frag} {mg : Str → Option Value} {base : Heap}
variable {a_BadRow a_ElseputError a_NoRow a_Table a_Taken a_UnknownField a_UnknownKey a_UnknownName : Addr}
/-- two tables and what stays -/
structure Tw (K : PySem.W.Frag) (H : Hp) (a L F R a2 L2 F2 R2 : Addr) (ks fs : List Str) (rows rs rows2 rs2 : List Tr) (cs : List (Addr × HO)) (n : Nat) : Prop where
  p1 : Pr K H a L F R ks fs rows rs
  p2 : Pr K H a2 L2 F2 R2 ks fs rows2 rs2
  a12 : Apart L F R rows L2 F2 R2 rows2 rs2
  a21 : Apart L2 F2 R2 rows2 L F R rows rs
  n1 : rows.length ≤ n
  n2 : rows2.length ≤ n
  cs : ∀ q ∈ cs, H q.1 = some q.2 ∧ ¬ mutS L F R rows q.1 ∧ ¬ mutS L2 F2 R2 rows2 q.1
theorem Tw.swap {K : PySem.W.Frag} {H : Hp} {a L F R a2 L2 F2 R2 : Addr} {ks fs : List Str} {rows rs rows2 rs2 : List Tr} {cs : List (Addr × HO)} {n : Nat} (h : Tw K H a L F R a2 L2 F2 R2 ks fs rows rs rows2 rs2 cs n) : Tw K H a2 L2 F2 R2 a L F R ks fs rows2 rs2 rows rs cs n :=
  ⟨h.p2, h.p1, h.a21, h.a12, h.n2, h.n1, fun q hq => ⟨(h.cs q hq).1, (h.cs q hq).2.2, (h.cs q hq).2.1⟩⟩
theorem Tw.go {K : PySem.W.Frag} {H H' : Hp} {a L F R a2 L2 F2 R2 : Addr} {ks fs : List Str} {rows rs rows2 rs2 rows' rs' : List Tr} {cs : List (Addr × HO)} {n : Nat} (h : Tw K H a L F R a2 L2 F2 R2 ks fs rows rs rows2 rs2 cs n) (g : Go K H H' a L F R ks fs rows rs rows' rs') (l : rows'.length ≤ rows.length + 1) : Tw K H' a L F R a2 L2 F2 R2 ks fs rows' rs' rows2 rs2 cs (n + 1) := by
  refine ⟨g.P, h.p2.go h.p1 h.a12 g, h.a12.go1 g h.p2, h.a21.go2 g h.p2, by have := h.n1; omega, by have := h.n2; omega, fun q hq => ?_⟩
  obtain ⟨h1, h2, h3⟩ := h.cs q hq
  exact ⟨g.f _ _ h2 h1, fun m => (g.m _ m).elim h2 fun e => (by rw [e] at h1; cases h1), h3⟩
theorem Tw.same {K : PySem.W.Frag} {H H' : Hp} {a L F R a2 L2 F2 R2 : Addr} {ks fs : List Str} {rows rs rows2 rs2 : List Tr} {cs : List (Addr × HO)} {n : Nat} (h : Tw K H a L F R a2 L2 F2 R2 ks fs rows rs rows2 rs2 cs n) (s : Same H H') : Tw K H' a L F R a2 L2 F2 R2 ks fs rows rs rows2 rs2 cs n :=
  ⟨h.p1.same s, h.p2.same s, h.a12, h.a21, h.n1, h.n2, fun q hq => ⟨s _ _ (h.cs q hq).1, (h.cs q hq).2⟩⟩
theorem Tw.add {K : PySem.W.Frag} {H H' : Hp} {a L F R a2 L2 F2 R2 : Addr} {ks fs : List Str} {rows rs rows2 rs2 : List Tr} {cs : List (Addr × HO)} {n : Nat} {b : Addr} {o : HO} (h : Tw K H a L F R a2 L2 F2 R2 ks fs rows rs rows2 rs2 cs n) (s : Same H H') (nb : H b = none) (hb : H' b = some o) : Tw K H' a L F R a2 L2 F2 R2 ks fs rows rs rows2 rs2 ((b, o) :: cs) n :=
  ⟨h.p1.same s, h.p2.same s, h.a12, h.a21, h.n1, h.n2, fun q hq => by
    rcases List.mem_cons.mp hq with rfl | hq
    · exact ⟨hb, fun m => h.p1.got (mem_useS.mpr (.inl m)) nb, fun m => h.p2.got (mem_useS.mpr (.inl m)) nb⟩
    · exact ⟨s _ _ (h.cs q hq).1, (h.cs q hq).2⟩⟩
theorem Tw.drop {K : PySem.W.Frag} {H : Hp} {a L F R a2 L2 F2 R2 : Addr} {ks fs : List Str} {rows rs rows2 rs2 : List Tr} {q : Addr × HO} {cs : List (Addr × HO)} {n : Nat} (h : Tw K H a L F R a2 L2 F2 R2 ks fs rows rs rows2 rs2 (q :: cs) n) : Tw K H a L F R a2 L2 F2 R2 ks fs rows rs rows2 rs2 cs n :=
  ⟨h.p1, h.p2, h.a12, h.a21, h.n1, h.n2, fun p hp => h.cs p (List.mem_cons_of_mem _ hp)⟩
def sp__law_twins_apart (K : PySem.W.Frag) : Sp := fun vs H Q _ => ∃ (a L F R kk ff vv oo : Addr) (ks fs : List Str) (rows rs : List Tr) (ns : List Int) (o0 o1 o2 : Str), vs = [.ref a, .ref kk, .ref ff, .ref R, .ref vv, .ref oo] ∧ Pr K H a L F R ks fs rows rs ∧ H kk = some (.lst (ks.map V.str)) ∧ H ff = some (.lst (fs.map V.str)) ∧ H vv = some (.lst (ns.map V.int)) ∧ ns.length = 4 ∧ H oo = some (.lst [.str o0, .str o1, .str o2]) ∧ o0 ∉ ks ∧ o2 ∉ ks ∧ (∀ z ∈ o0 :: o2 :: ks, z.length ≤ 1000 ∧ Asc z) ∧ (∀ z ∈ fs, z.length ≤ 1000 ∧ Asc z) ∧ ks ≠ [] ∧ fs ≠ [] ∧ fs.length ≤ 3 ∧ rows.length ≤ 50 ∧ ¬ mutS L F R rows kk ∧ ¬ mutS L F R rows ff ∧ ¬ mutS L F R rows vv ∧ ¬ mutS L F R rows oo ∧ ∀ H', Q (.bl true) H'
theorem len__law_twins_apart {vs : List V} {H : Hp} {Q : VK} {E : XK} (h : sp__law_twins_apart K vs H Q E) : vs.length = 6 := by
  obtain ⟨_, _, _, _, _, _, _, _, _, _, _, _, _, _, _, _, rfl, _⟩ := h
  rfl
theorem ok__law_twins_apart {f : Addr} {fd : FuncData} {f__law_is_table : Addr} {fd__law_is_table : FuncData} {f__law_puts : Addr} {fd__law_puts : FuncData} {f__law_writes : Addr} {fd__law_writes : FuncData} {f_Table_twin : Addr} {fd_Table_twin : FuncData} (F : Fun K "_law_twins_apart" "_law_twins_apart" s__law_twins_apart f fd) (T : Gs K mg a_BadRow a_ElseputError a_NoRow a_Table a_Taken a_UnknownField a_UnknownKey a_UnknownName) (c__law_is_table : Cal P w K mg base CX0 27 "_law_is_table" f__law_is_table fd__law_is_table ["_law_table", "_law_keys", "_law_rows", "_law_values_here", "_law_others"] (sp__law_is_table K)) (c__law_puts : Cal P w K mg base CX0 28 "_law_puts" f__law_puts fd__law_puts ["_law_table", "_law_keys", "_law_fields", "_law_rows", "_law_word", "_law_pair"] (sp__law_puts K)) (c__law_writes : Cal P w K mg base CX0 27 "_law_writes" f__law_writes fd__law_writes ["_law_table", "_law_fields", "_law_rows", "_law_row", "_law_field", "_law_number_here"] (sp__law_writes K)) (c_Table_twin : CalM P w K mg base CX0 5 a_Table "twin" f_Table_twin fd_Table_twin ["self"] (sp_Table_twin K)) : FnOk P w K mg base CX0 29 f fd ["_law_table", "_law_keys", "_law_fields", "_law_rows", "_law_values_here", "_law_others"] (sp__law_twins_apart K) := by
  refine F.ok sc__law_twins_apart (fun vs H Q E h => len__law_twins_apart h) (fun cdv A outer s H vs Q E hr h => ?_)
  obtain ⟨a, L, F, R, kk, ff, vv, oo, ks, fs, rows, rs, ns, o0, o1, o2, rfl, hP, hkk, hff, hvv, n4, hoo, m0, m2, zl, fl, kne, fne, f3, r50, mk, mf, mv, mo, q⟩ := h
  refine ⟨_, (pss_cons (ps_set (i := 6) sc__law_twins_apart.nd rfl (.inl rfl) (pe_meth0 (v_ 0) c_Table_twin.cl c_Table_twin.me c_Table_twin.G (hr.mono (by first | decide | omega)) c_Table_twin.b .nil pass0)) (pss_cons (ps_set (i := 7) sc__law_twins_apart.nd rfl (.inl rfl) (pe_callTy (listK K) (by rfl) T.z_list (by decide +kernel) (pa_cons (v_ 3) pa_nil))) (pss_cons (ps_set (i := 8) sc__law_twins_apart.nd rfl (.inl rfl) (pe_disp (pps_cons (e_x K (v_ 1) pe_int) (e_x K (v_ 4) pe_int) pps_nil) (by rfl) (by rfl) (by intro h; cases h) (by decide))) (pss_cons (ps_set (i := 9) sc__law_twins_apart.nd rfl (.inl rfl) pe_dnewK) (pss_cons (ps_for PassesOwn.never rfl (pi_list (v_ 2)) (pg_name (i := 10) sc__law_twins_apart.nd rfl (.inl rfl)) (pss_one (ps_asg pe_int (pg_sub (v_ 9) (v_ 10) (set_dict (hu_of hr)))))) (pss_cons (ps_for PassesOwn.never rfl (pi_list (pe_lst (pa_cons pe_str (pa_cons pe_str pa_nil)))) (pg_name (i := 11) sc__law_twins_apart.nd rfl (.inl rfl)) (pss_one (ps_if (pt_not (pt_t K (pe_call c__law_puts.G (hr.mono (by first | decide | omega)) rfl c__law_puts.m c__law_puts.kp c__law_puts.b .nil pass0 (pa_cons (v_ 0) (pa_cons (v_ 1) (pa_cons (v_ 2) (pa_cons (v_ 3) (pa_cons (v_ 11) (pa_cons (pe_tup (pa_cons pe_dnewK (pa_cons (v_ 9) pa_nil))) pa_nil))))))))) (pss_one (ps_ret pe_bl)) pss_nil))) (pss_cons (ps_if (pt_not (pt_t K (pe_call c__law_puts.G (hr.mono (by first | decide | omega)) rfl c__law_puts.m c__law_puts.kp c__law_puts.b .nil pass0 (pa_cons (v_ 0) (pa_cons (v_ 1) (pa_cons (v_ 2) (pa_cons (v_ 3) (pa_cons pe_str (pa_cons (pe_tup (pa_cons (v_ 8) (pa_cons (v_ 9) pa_nil))) pa_nil))))))))) (pss_one (ps_ret pe_bl)) pss_nil) (pss_cons (ps_if (pt_not (pt_t K (pe_call c__law_writes.G (hr.mono (by first | decide | omega)) rfl c__law_writes.m c__law_writes.kp c__law_writes.b .nil pass0 (pa_cons (v_ 0) (pa_cons (v_ 2) (pa_cons (v_ 3) (pa_cons pe_int (pa_cons (e_x K (v_ 2) pe_int) (pa_cons pe_int pa_nil))))))))) (pss_one (ps_ret pe_bl)) pss_nil) (pss_cons (ps_if (pt_not (pt_t K (pe_call c__law_is_table.G (hr.mono (by first | decide | omega)) rfl c__law_is_table.m c__law_is_table.kp c__law_is_table.b .nil pass0 (pa_cons (v_ 6) (pa_cons (v_ 1) (pa_cons (v_ 7) (pa_cons (v_ 4) (pa_cons (v_ 5) pa_nil)))))))) (pss_one (ps_ret pe_bl)) pss_nil) (pss_cons (ps_if (pt_not (pt_t K (pe_call c__law_puts.G (hr.mono (by first | decide | omega)) rfl c__law_puts.m c__law_puts.kp c__law_puts.b .nil pass0 (pa_cons (v_ 6) (pa_cons (v_ 1) (pa_cons (v_ 2) (pa_cons (v_ 7) (pa_cons pe_str (pa_cons (pe_tup (pa_cons (v_ 8) (pa_cons (v_ 9) pa_nil))) pa_nil))))))))) (pss_one (ps_ret pe_bl)) pss_nil) (pss_cons (ps_if (pt_not (pt_t K (pe_call c__law_writes.G (hr.mono (by first | decide | omega)) rfl c__law_writes.m c__law_writes.kp c__law_writes.b .nil pass0 (pa_cons (v_ 6) (pa_cons (v_ 2) (pa_cons (v_ 7) (pa_cons pe_int (pa_cons (e_x K (v_ 2) pe_int) (pa_cons pe_int pa_nil))))))))) (pss_one (ps_ret pe_bl)) pss_nil) (pss_cons (ps_if (pt_not (pt_t K (pe_call c__law_is_table.G (hr.mono (by first | decide | omega)) rfl c__law_is_table.m c__law_is_table.kp c__law_is_table.b .nil pass0 (pa_cons (v_ 0) (pa_cons (v_ 1) (pa_cons (v_ 3) (pa_cons (v_ 4) (pa_cons (v_ 5) pa_nil)))))))) (pss_one (ps_ret pe_bl)) pss_nil) (pss_one (ps_ret (pe_call c__law_is_table.G (hr.mono (by first | decide | omega)) rfl c__law_is_table.m c__law_is_table.kp c__law_is_table.b .nil pass0 (pa_cons (v_ 6) (pa_cons (v_ 1) (pa_cons (v_ 7) (pa_cons (v_ 4) (pa_cons (v_ 5) pa_nil)))))))))))))))))))), ?_⟩
  obtain ⟨C, dx, _, _, vs, kvs, hC, ha, _, _, hL, hrw, hF, _⟩ := id hP.T
  cases hC.symm.trans T.n_Table
  refine ⟨a, dx, _, rfl, ha, rfl, a, L, F, ks, fs, rows, rfl, hP.T, hP.ok, fun H1 a2 L2 F2 rows2 s1 na nL nF fr nd er hT2 => ?_⟩
  obtain ⟨ws, hR, hws⟩ := hP.wr
  refine ⟨R, ws, rfl, .inl (SqL.of (s1 _ _ hR)), fun R2 nR => ?_⟩
  have s2 := same_new (o := .lst ws) nR
  have hR2 := upd_same (H := H1) (a := R2) (o := .lst ws)
  generalize upd H1 R2 (.lst ws) = H2 at s2 hR2 ⊢
  have s12 := s1.trans s2
  have R20 : H R2 = none := Same.free s1 nR
  have l2 : rows2.length = rows.length := by
    have := congrArg List.length er
    rwa [List.length_map, List.length_map] at this
  have free2 : ∀ b, mutS L2 F2 R2 rows2 b → H b = none := fun b hb => by
    rcases hb with rfl | hb
    · exact R20
    rcases mem_fpT.mp hb with rfl | rfl | hb
    · exact nL
    · exact nF
    · obtain ⟨x, hx, e⟩ := mem_dicts.mp hb
      rcases e with rfl | rfl
      · exact (fr x hx).1
      · exact (fr x hx).2
  have use1 : ∀ b ∈ useS L F R rows rs, ¬ H b = none := fun b hb => hP.got hb
  have P2 : Pr K H2 a2 L2 F2 R2 ks fs rows2 rs := by
    refine ⟨hT2.same s2, ⟨ws, hR2, hws.imp fun v x h => RowAt.same h s12⟩, hP.e.trans er.symm, nd, by rw [er]; exact hP.ok, fun e => ?_, fun b hb m => use1 b (mem_useS.mpr (.inr hb)) (free2 b (.inr m))⟩
    exact fpT_got hT2 (mem_fpT.mpr (.inl rfl)) (e ▸ nR)
  have dR : ∀ b ∈ dicts rs, ¬ mutS L F R rows b := fun b hb n => by
    rcases n with n | n
    · obtain ⟨_, e⟩ := rows_dict hws hb
      rw [n, hR] at e; cases e
    · exact hP.dj b hb n
  have W0 : Tw K H2 a L F R a2 L2 F2 R2 ks fs rows rs rows2 rs [(kk, .lst (ks.map V.str)), (ff, .lst (fs.map V.str)), (vv, .lst (ns.map V.int)), (oo, .lst [.str o0, .str o1, .str o2])] rows.length := by
    refine ⟨hP.same s12, P2, fun b hb u => ?_, fun b hb u => use1 b u (free2 b hb), Nat.le_refl _, by omega, fun q hq => ?_⟩
    · rcases mem_useS.mp u with u | u
      · exact use1 b (mem_useS.mpr (.inl hb)) (free2 b u)
      · exact dR b u hb
    · have no2 : ∀ {b o}, H b = some o → ¬ mutS L2 F2 R2 rows2 b := fun {b o} hb m => by rw [free2 b m] at hb; cases hb
      rcases List.mem_cons.mp hq with rfl | hq
      · exact ⟨s12 _ _ hkk, mk, no2 hkk⟩
      rcases List.mem_cons.mp hq with rfl | hq
      · exact ⟨s12 _ _ hff, mf, no2 hff⟩
      rcases List.mem_cons.mp hq with rfl | hq
      · exact ⟨s12 _ _ hvv, mv, no2 hvv⟩
      rw [List.mem_singleton.mp hq]
      exact ⟨s12 _ _ hoo, mo, no2 hoo⟩
  have hkk2 := s12 _ _ hkk
  have hff2 := s12 _ _ hff
  have hvv2 := s12 _ _ hvv
  obtain ⟨k0, kr, ek⟩ := List.exists_cons_of_ne_nil kne
  obtain ⟨f0, fr', ef⟩ := List.exists_cons_of_ne_nil fne
  have f0m : f0 ∈ fs := by rw [ef]; exact List.mem_cons_self
  obtain ⟨f0l, f0a⟩ := fl f0 f0m
  obtain ⟨v3, ev3⟩ : ∃ n, ns[3]? = some n := ⟨_, List.getElem?_eq_getElem (by omega)⟩
  have k0' : atI (ks.map V.str) (0 : Int) = some (.str k0) := atI_nat (j := 0) (by rw [ek]; rfl)
  have f0' : atI (fs.map V.str) (0 : Int) = some (.str f0) := atI_nat (j := 0) (by rw [ef]; rfl)
  have v3' : atI (ns.map V.int) (3 : Int) = some (.int v3) := atI_nat (j := 3) (by rw [List.getElem?_map, ev3]; rfl)
  -- the place and the content
  intro p np
  have s3 := same_new (o := .dK []) np
  refine ⟨_, .inl (SqL.of (s3 _ _ hkk2)), _, k0', _, .inl (SqL.of (s3 _ _ hvv2)), _, v3', upd_same, [(kS k0, .int v3)], rfl, (by show 1 ≤ 15; decide), ?_⟩
  rw [upd_upd]
  have ep : mergeK [] [(kS k0, V.int v3)] = [(kS k0, .int v3)] := rfl
  rw [ep]
  have W1 := W0.add (o := .dK [(kS k0, .int v3)]) (same_new np) np upd_same
  show (fun H4 => _) (upd H2 p (.dK [(kS k0, .int v3)]))
  generalize upd H2 p (.dK [(kS k0, .int v3)]) = H3 at W1 ⊢
  clear s3 hkk2 hff2 hvv2 W0
  intro c nc
  have pc : p ≠ c := ne_of_none (W1.cs _ List.mem_cons_self).1 nc
  have s4 := same_new (o := .dK []) nc
  have hc4 := upd_same (H := H3) (a := c) (o := .dK [])
  show (fun H4 => _) (upd H3 c (.dK []))
  generalize upd H3 c (.dK []) = H4 at s4 hc4 ⊢
  have hff3 := (W1.cs (ff, .lst (fs.map V.str)) (by simp)).1
  refine ⟨ff, rfl, ⟨_, SqL.of (s4 _ _ hff3)⟩, ?_⟩
  refine for_list (K := K) (a := ff) (xs := fs.map V.str) (fun i σ' H' => (∃ y10, σ' = [some (.ref a), some (.ref kk), some (.ref ff), some (.ref R), some (.ref vv), some (.ref oo), some (.ref a2), some (.ref R2), some (.ref p), some (.ref c), y10, none]) ∧ Same H3 H' ∧ ∃ ct, H' c = some (.dK ct) ∧ Kd ct i) ⟨⟨_, rfl⟩, s4, [], hc4, Kd.nil⟩ (fun _ _ _ _ h => SqL.of (h.2.1 _ _ hff3)) ?_ ?_
  · rintro i v σ' H5 hi ⟨⟨y10, rfl⟩, s5, ct, hc5, kc⟩
    rw [List.getElem?_map] at hi
    obtain ⟨z, ez, rfl⟩ := Option.map_eq_some_iff.mp hi
    have il := (List.getElem?_eq_some_iff.mp ez).1
    exact ⟨c, _, rfl, DPut.k (k := kS z) hc5 (line_lt (by have := kc.len; omega)), ⟨_, rfl⟩, fun b o hb => by rw [upd_ne (ne_of_none hb nc)]; exact s5 _ _ hb, _, upd_same, kc.put⟩
  rintro σ' H5 ⟨⟨y10, rfl⟩, s5, ct, hc5, kc⟩
  have kc : Kd ct 4 := kc.le (by rw [List.length_map]; omega)
  have W2 := W1.add s5 nc hc5
  clear W1 s4 hc4 hff3
  have kp : Kd [(kS k0, .int v3)] 50 := ⟨[k0], rfl, List.nodup_cons.mpr ⟨List.not_mem_nil, .nil⟩, fun q hq => ⟨v3, by rw [List.mem_singleton.mp hq]⟩, by show 1 ≤ 50; decide⟩
  generalize hcs : [(c, HO.dK ct), (p, .dK [(kS k0, .int v3)]), (kk, .lst (ks.map V.str)), (ff, .lst (fs.map V.str)), (vv, .lst (ns.map V.int)), (oo, .lst [.str o0, .str o1, .str o2])] = cs at W2
  have c1 : (c, HO.dK ct) ∈ cs := by rw [← hcs]; simp
  have c2 : (p, HO.dK [(kS k0, .int v3)]) ∈ cs := by rw [← hcs]; simp
  have c3 : (kk, HO.lst (ks.map V.str)) ∈ cs := by rw [← hcs]; simp
  have c4 : (ff, HO.lst (fs.map V.str)) ∈ cs := by rw [← hcs]; simp
  have c5 : (vv, HO.lst (ns.map V.int)) ∈ cs := by rw [← hcs]; simp
  have c6 : (oo, HO.lst [.str o0, .str o1, .str o2]) ∈ cs := by rw [← hcs]; simp
  clear hcs
  have kw : ∀ z ∈ ks, z.length ≤ 1000 ∧ Asc z := fun z hz => zl z (List.mem_cons_of_mem _ (List.mem_cons_of_mem _ hz))
  -- no place
  refine ⟨(by show 2 ≤ sizeLine; decide), fun b nb => ?_⟩
  have sb := same_new (o := .lst [.str "put", .str "enter"]) nb
  have hb : upd H5 b (.lst [.str "put", .str "enter"]) b = some (.lst (([("put" : Str), "enter"] : List Str).map V.str)) := upd_same
  have W3 := W2.add sb nb hb
  show (fun H4 => _) (upd H5 b (.lst [.str "put", .str "enter"]))
  generalize upd H5 b (.lst [.str "put", .str "enter"]) = H6 at W3 hb ⊢
  refine ⟨b, rfl, ⟨_, SqL.of hb⟩, ?_⟩
  refine for_list (K := K) (a := b) (xs := ([("put" : Str), "enter"] : List Str).map V.str) (fun i σ' H' => (∃ y11, σ' = [some (.ref a), some (.ref kk), some (.ref ff), some (.ref R), some (.ref vv), some (.ref oo), some (.ref a2), some (.ref R2), some (.ref p), some (.ref c), y10, y11]) ∧ ∃ rowsA rsA, Tw K H' a L F R a2 L2 F2 R2 ks fs rowsA rsA rows2 rs ((b, HO.lst (([("put" : Str), "enter"] : List Str).map V.str)) :: cs) (rows.length + i)) ⟨⟨_, rfl⟩, rows, rs, W3⟩ (fun _ _ _ _ h => SqL.of (h.2.choose_spec.choose_spec.cs _ List.mem_cons_self).1) ?_ ?_
  · rintro i v σ' H7 hi ⟨⟨y11, rfl⟩, rowsA, rsA, W⟩
    rw [List.getElem?_map] at hi
    obtain ⟨z, ez, rfl⟩ := Option.map_eq_some_iff.mp hi
    have il : i < 2 := (List.getElem?_eq_some_iff.mp ez).1
    intro e ne
    have ec : e ≠ c := (ne_of_none (W.cs _ (List.mem_cons_of_mem _ c1)).1 ne).symm
    have W := W.add (same_new (o := .dK []) ne) ne upd_same
    show (fun H4 => _) (upd H7 e (.dK []))
    generalize upd H7 e (.dK []) = H8 at W ⊢
    refine ⟨(by show 2 ≤ sizeLine; decide), fun t nt => ?_⟩
    have W := W.add (same_new (o := .tup [.ref e, .ref c]) nt) nt upd_same
    show (fun H4 => _) (upd H8 t (.tup [.ref e, .ref c]))
    generalize upd H8 t (.tup [.ref e, .ref c]) = H9 at W ⊢
    have up : ∀ {q : Addr × HO}, q ∈ cs → q ∈ (t, HO.tup [.ref e, .ref c]) :: (e, HO.dK []) :: (b, HO.lst (([("put" : Str), "enter"] : List Str).map V.str)) :: cs := fun h => List.mem_cons_of_mem _ (List.mem_cons_of_mem _ (List.mem_cons_of_mem _ h))
    have he := (W.cs _ (List.mem_cons_of_mem _ List.mem_cons_self)).1
    have hc := (W.cs _ (up c1)).1
    have n1 := W.n1
    refine ⟨a, L, F, R, kk, ff, t, e, c, ks, fs, rowsA, rsA, [], ct, z, rfl, W.p1, (W.cs _ (up c3)).1, (W.cs _ (up c4)).1, (W.cs _ List.mem_cons_self).1, he, hc, ec, Kd.nil.le (by omega), kc, kw, by omega, (W.cs _ (up c3)).2.1, (W.cs _ (up c4)).2.1, fun HA rowsB rsB g gl => ?_⟩
    · have WB := W.go g gl
      refine ⟨⟨_, rfl⟩, rowsB, rsB, WB.p1, WB.p2, WB.a12, WB.a21, by have := WB.n1; omega, by have := WB.n2; omega, fun q hq => WB.cs q (List.mem_cons_of_mem _ (List.mem_cons_of_mem _ hq))⟩
  rintro σ' H7 ⟨⟨y11, rfl⟩, rowsA, rsA, W⟩
  have W := W.drop
  have e2 : (([("put" : Str), "enter"] : List Str).map V.str).length = 2 := rfl
  rw [e2] at W
  clear hb nb sb W3 W2 e2
  refine ⟨(by show 2 ≤ sizeLine; decide), fun t nt => ?_⟩
  have W := W.add (same_new (o := .tup [.ref p, .ref c]) nt) nt upd_same
  show (fun H4 => _) (upd _ t (.tup [.ref p, .ref c]))
  generalize upd _ t (.tup [.ref p, .ref c]) = HA at W ⊢
  clear nt
  have n1 := W.n1
  have n2 := W.n2
  refine ⟨a, L, F, R, kk, ff, t, p, c, ks, fs, _, _, [(kS k0, .int v3)], ct, "enter", rfl, W.p1, (W.cs _ (List.mem_cons_of_mem _ c3)).1, (W.cs _ (List.mem_cons_of_mem _ c4)).1, (W.cs _ List.mem_cons_self).1, (W.cs _ (List.mem_cons_of_mem _ c2)).1, (W.cs _ (List.mem_cons_of_mem _ c1)).1, pc, kp, kc, kw, by omega, (W.cs _ (List.mem_cons_of_mem _ c3)).2.1, (W.cs _ (List.mem_cons_of_mem _ c4)).2.1, fun HA' rowsHA rsHA g gl => ?_⟩
  have W := (W.go g gl).drop
  clear g gl
  refine ⟨_, .inl (SqL.of (W.cs _ c4).1), _, f0', a, L, F, R, ff, ks, fs, _, _, 0, 8, f0, rfl, W.p1, (W.cs _ c4).1, by decide, f0l, f0a, fun HB rowsHB rsHB g gl => ?_⟩
  have W := (W.go g (by omega))
  clear g gl
  refine ⟨a2, L2, F2, kk, R2, vv, oo, ks, fs, _, _, ns, o0, o1, o2, rfl, W.swap.p1, (W.cs _ c3).1, (W.cs _ c5).1, by omega, (W.cs _ c6).1, m0, m2, zl, fun HC s => ?_⟩
  have W := W.same s
  clear s
  refine ⟨(by show 2 ≤ sizeLine; decide), fun t nt => ?_⟩
  have W := W.add (same_new (o := .tup [.ref p, .ref c]) nt) nt upd_same
  show (fun H4 => _) (upd _ t (.tup [.ref p, .ref c]))
  generalize upd _ t (.tup [.ref p, .ref c]) = HD at W ⊢
  clear nt
  have n1 := W.n1
  have n2 := W.n2
  refine ⟨a2, L2, F2, R2, kk, ff, t, p, c, ks, fs, _, _, [(kS k0, .int v3)], ct, "enter", rfl, W.swap.p1, (W.cs _ (List.mem_cons_of_mem _ c3)).1, (W.cs _ (List.mem_cons_of_mem _ c4)).1, (W.cs _ List.mem_cons_self).1, (W.cs _ (List.mem_cons_of_mem _ c2)).1, (W.cs _ (List.mem_cons_of_mem _ c1)).1, pc, kp, kc, kw, by omega, (W.swap.cs _ (List.mem_cons_of_mem _ c3)).2.1, (W.swap.cs _ (List.mem_cons_of_mem _ c4)).2.1, fun HD' rowsHD rsHD g gl => ?_⟩
  have W := (W.swap.go g gl).swap.drop
  clear g gl
  refine ⟨_, .inl (SqL.of (W.cs _ c4).1), _, f0', a2, L2, F2, R2, ff, ks, fs, _, _, 0, 9, f0, rfl, W.swap.p1, (W.cs _ c4).1, by decide, f0l, f0a, fun HE rowsHE rsHE g gl => ?_⟩
  have W := (W.swap.go g (by omega)).swap
  clear g gl
  refine ⟨a, L, F, kk, R, vv, oo, ks, fs, _, _, ns, o0, o1, o2, rfl, W.p1, (W.cs _ c3).1, (W.cs _ c5).1, by omega, (W.cs _ c6).1, m0, m2, zl, fun HF s => ?_⟩
  have W := W.same s
  clear s
  refine ⟨a2, L2, F2, kk, R2, vv, oo, ks, fs, _, _, ns, o0, o1, o2, rfl, W.swap.p1, (W.cs _ c3).1, (W.cs _ c5).1, by omega, (W.cs _ c6).1, m0, m2, zl, fun H' _ => q H'⟩
end
section
variable {P : Program} {w : World} {K : PySem.W.Frag} {mg : Str → Option Value} {base : Heap}
variable {a_BadRow a_ElseputError a_NoRow a_Table a_Taken a_UnknownField a_UnknownKey a_UnknownName : Addr}
/-! ### values -/
def sp__law_values (K : PySem.W.Frag) : Sp := fun vs H Q _ => ∃ (st scr : Addr), vs = [.ref st] ∧ DrAt H st scr ∧
  ∀ (H' : Hp) (p : Addr) (ns : List Int), Bt st H H' → DrAt H' st scr → H p = none → H' p = some (.lst (ns.map V.int)) → ns.length = 4 → Q (.ref p) H'
theorem len__law_values {vs : List V} {H : Hp} {Q : VK} {E : XK} (h : sp__law_values K vs H Q E) : vs.length = 1 := by
  obtain ⟨_, _, rfl, _⟩ := h
  rfl
theorem ok__law_values {f : Addr} {fd : FuncData} {f__law_constant : Addr} {fd__law_constant : FuncData} {f__law_draw : Addr} {fd__law_draw : FuncData} (F : Fun K "_law_values" "_law_values" s__law_values f fd) (T : Gs K mg a_BadRow a_ElseputError a_NoRow a_Table a_Taken a_UnknownField a_UnknownKey a_UnknownName) (c__law_constant : Cal P w K mg base CX0 3 "_law_constant" f__law_constant fd__law_constant ["_law_state_here"] (sp__law_constant K)) (c__law_draw : Cal P w K mg base CX0 1 "_law_draw" f__law_draw fd__law_draw ["_law_state_here", "_law_many"] (sp__law_draw K)) : FnOk P w K mg base CX0 4 f fd ["_law_state_here"] (sp__law_values K) := by
  refine F.ok sc__law_values (fun vs H Q E h => len__law_values h) (fun cdv A outer s H vs Q E hr h => ?_)
  obtain ⟨st, scr, rfl, hd, q⟩ := h
  refine ⟨_, (pss_cons (ps_set (i := 1) sc__law_values.nd rfl (.inl rfl) (pe_call c__law_constant.G (hr.mono (by first | decide | omega)) rfl c__law_constant.m c__law_constant.kp c__law_constant.b .nil pass0 (pa_cons (v_ 0) pa_nil))) (pss_cons (ps_set (i := 2) sc__law_values.nd rfl (.inl rfl) (pe_op (addK K) pe_int (pe_call c__law_draw.G (hr.mono (by first | decide | omega)) rfl c__law_draw.m c__law_draw.kp c__law_draw.b .nil pass0 (pa_cons (v_ 0) (pa_cons pe_int pa_nil))))) (pss_one (ps_ret (pe_lst (pa_cons (v_ 1) (pa_cons (pe_op (addK K) (v_ 1) (v_ 2)) (pa_cons (pe_op (addK K) (v_ 1) (pe_op op_mulSM pe_int (v_ 2))) (pa_cons (pe_op (addK K) (v_ 1) (pe_op op_mulSM pe_int (v_ 2))) pa_nil))))))))), ?_⟩
  refine ⟨st, scr, rfl, hd, fun l i bd hd1 => ?_⟩
  have b1 : Bt st H (upd H st (.lst l)) := Bt.st
  generalize upd H st (.lst l) = H1 at hd1 b1 ⊢
  refine ⟨st, scr, 5, rfl, hd1, by decide, many_small (by decide) (by decide), fun r l r0 r1 hd2 => ?_⟩
  have b2 : Bt st H (upd H1 st (.lst l)) := b1.trans Bt.st
  generalize upd H1 st (.lst l) = H2 at hd2 b2 ⊢
  refine ⟨.inl (.inl ⟨by decide, by decide⟩), .inl (.inl ⟨by decide, by decide⟩), (by show 4 ≤ sizeLine; decide), fun p np => ?_⟩
  have sp := same_new (o := .lst ([i, i + (1 + r), i + 2 * (1 + r), i + 3 * (1 + r)].map V.int)) np
  exact q _ p [i, i + (1 + r), i + 2 * (1 + r), i + 3 * (1 + r)] (b2.trans (Bt.same sp)) (hd2.new sp) (b2.free (hd2.ne_new np) np) upd_same rfl
end
section
variable {P : Program} {w : World} {K : PySem.W.Frag} {mg : Str → Option Value} {base : Heap}
variable {a_BadRow a_ElseputError a_NoRow a_Table a_Taken a_UnknownField a_UnknownKey a_UnknownName : Addr}
theorem cutV_mid (xs : List V) {a b : Nat} (h : a ≤ b) : cutV xs (some (a : Int)) (some (b : Int)) = (xs.drop a).take (b - a) := by
  unfold cutV
  rw [HT.sIx_nat, HT.sIx_nat]
  by_cases ha : a ≤ xs.length
  · rw [Nat.min_eq_left ha, List.take_eq_take_iff, List.length_drop]
    omega
  · rw [Nat.min_eq_right (by omega : xs.length ≤ a), List.drop_of_length_le (Nat.le_refl _), List.drop_of_length_le (by omega), List.take_nil, List.take_nil]
/-- an earlier table and its rows -/
def OldAt (K : PySem.W.Frag) (H : Hp) (st Ov L F R : Addr) (ks fs : List Str) (rows : List Tr) (v : V) : Prop := ∃ (t b L' F' R' : Addr) (rows' rs' : List Tr), v = .ref t ∧ H t = some (.tup [.ref b, .ref R']) ∧ Pr K H b L' F' R' ks fs rows' rs' ∧ Apart L F R rows L' F' R' rows' rs' ∧ st ∉ useS L' F' R' rows' rs' ∧ Ov ∉ useS L' F' R' rows' rs'
structure Lw (K : PySem.W.Frag) (H : Hp) (st scr Ov a L F R : Addr) (ks fs : List Str) (rows rs : List Tr) (cs : List (Addr × HO)) (n : Nat) : Prop where
  p : Pr K H a L F R ks fs rows rs
  d : DrAt H st scr
  nl : rows.length ≤ n
  s1 : st ∉ useS L F R rows rs
  s2 : Ov ∉ useS L F R rows rs
  s3 : ¬ mutS L F R rows scr
  s4 : Ov ≠ st
  s5 : Ov ≠ scr
  cs : ∀ q ∈ cs, H q.1 = some q.2 ∧ ¬ mutS L F R rows q.1 ∧ q.1 ≠ st ∧ q.1 ≠ Ov
  os : ∃ os : List V, H Ov = some (.lst os) ∧ os.length ≤ n ∧ ∀ v ∈ os, OldAt K H st Ov L F R ks fs rows v
theorem DrAt.mu {H : Hp} {st scr : Addr} (h : DrAt H st scr) : MutO (H st) := by
  obtain ⟨_, _, _, _, _, e, _⟩ := h
  rw [e]; trivial
theorem DrAt.keep {N : Addr → Prop} {H H' : Hp} {st scr : Addr} (h : DrAt H st scr) (f : Fr N H H') (n1 : ¬ N st) (n2 : ¬ N scr) : DrAt H' st scr := by
  obtain ⟨ns, i, v, m, c, e1, e2, e3, e4⟩ := h
  exact ⟨ns, i, v, m, c, f _ _ n1 e1, f _ _ n2 e2, e3, e4⟩
theorem OldAt.keep {K : PySem.W.Frag} {N : Addr → Prop} {H H' : Hp} {st Ov L F R : Addr} {ks fs : List Str} {rows : List Tr} {v : V} (h : OldAt K H st Ov L F R ks fs rows v) (f : Fr N H H') (mu : ∀ b, N b → MutO (H b)) (no : ∀ (L' F' R' : Addr) (rows' rs' : List Tr), Apart L F R rows L' F' R' rows' rs' → st ∉ useS L' F' R' rows' rs' → Ov ∉ useS L' F' R' rows' rs' → ∀ b ∈ useS L' F' R' rows' rs', ¬ N b) : OldAt K H' st Ov L F R ks fs rows v := by
  obtain ⟨t, b, L', F', R', rows', rs', e, ht, hp, ap, n1, n2⟩ := h
  refine ⟨t, b, L', F', R', rows', rs', e, f _ _ (fun n => ?_) ht, hp.keep f (no _ _ _ _ _ ap n1 n2) mu, ap, n1, n2⟩
  have := mu _ n
  rw [ht] at this
  exact this
theorem Lw.same {K : PySem.W.Frag} {H H' : Hp} {st scr Ov a L F R : Addr} {ks fs : List Str} {rows rs : List Tr} {cs : List (Addr × HO)} {n : Nat} (h : Lw K H st scr Ov a L F R ks fs rows rs cs n) (s : Same H H') : Lw K H' st scr Ov a L F R ks fs rows rs cs n := by
  obtain ⟨os, h1, h2, h3⟩ := h.os
  exact ⟨h.p.same s, h.d.new s, h.nl, h.s1, h.s2, h.s3, h.s4, h.s5, fun q hq => ⟨s _ _ (h.cs q hq).1, (h.cs q hq).2⟩, os, s _ _ h1, h2, fun v hv => (h3 v hv).keep (N := fun _ => False) (Fr.same s) (fun _ n => n.elim) (fun _ _ _ _ _ _ _ _ _ _ n => n)⟩
theorem Lw.bt {K : PySem.W.Frag} {H H' : Hp} {st scr Ov a L F R : Addr} {ks fs : List Str} {rows rs : List Tr} {cs : List (Addr × HO)} {n : Nat} (h : Lw K H st scr Ov a L F R ks fs rows rs cs n) (s : Bt st H H') (d : DrAt H' st scr) : Lw K H' st scr Ov a L F R ks fs rows rs cs n := by
  obtain ⟨os, h1, h2, h3⟩ := h.os
  have f : Fr (fun b => b = st) H H' := s
  have mu : ∀ b, b = st → MutO (H b) := fun b e => e ▸ h.d.mu
  exact ⟨h.p.keep f (fun b hb e => h.s1 (e ▸ hb)) mu, d, h.nl, h.s1, h.s2, h.s3, h.s4, h.s5, fun q hq => ⟨s _ _ (h.cs q hq).2.2.1 (h.cs q hq).1, (h.cs q hq).2⟩, os, s _ _ h.s4 h1, h2, fun v hv => (h3 v hv).keep f mu (fun _ _ _ _ _ _ n1 _ b hb e => n1 (e ▸ hb))⟩
theorem Lw.le {K : PySem.W.Frag} {H : Hp} {st scr Ov a L F R : Addr} {ks fs : List Str} {rows rs : List Tr} {cs : List (Addr × HO)} {n m : Nat} (h : Lw K H st scr Ov a L F R ks fs rows rs cs n) (l : n ≤ m) : Lw K H st scr Ov a L F R ks fs rows rs cs m := by
  obtain ⟨os, h1, h2, h3⟩ := h.os
  exact ⟨h.p, h.d, Nat.le_trans h.nl l, h.s1, h.s2, h.s3, h.s4, h.s5, h.cs, os, h1, Nat.le_trans h2 l, h3⟩
theorem Lw.go {K : PySem.W.Frag} {H H' : Hp} {st scr Ov a L F R : Addr} {ks fs : List Str} {rows rs rows' rs' : List Tr} {cs : List (Addr × HO)} {n : Nat} (h : Lw K H st scr Ov a L F R ks fs rows rs cs n) (g : Go K H H' a L F R ks fs rows rs rows' rs') (l : rows'.length ≤ rows.length + 1) : Lw K H' st scr Ov a L F R ks fs rows' rs' cs (n + 1) := by
  obtain ⟨os, h1, h2, h3⟩ := h.os
  have kp : ∀ {b o}, H b = some o → ¬ mutS L F R rows b → ¬ mutS L F R rows' b := fun {b o} hb m m' => (g.m b m').elim m fun e => by rw [e] at hb; cases hb
  have ku : ∀ {b o}, H b = some o → b ∉ useS L F R rows rs → b ∉ useS L F R rows' rs' := fun {b o} hb m m' => (g.u b m').elim m fun e => by rw [e] at hb; cases hb
  have mo : ¬ mutS L F R rows Ov := fun m => h.s2 (mem_useS.mpr (.inl m))
  have ms : ¬ mutS L F R rows st := fun m => h.s1 (mem_useS.mpr (.inl m))
  obtain ⟨_, _, _, _, _, e1, e2, _⟩ := id h.d
  refine ⟨g.P, h.d.keep g.f ms h.s3, by have := h.nl; omega, ku e1 h.s1, ku h1 h.s2, kp e2 h.s3, h.s4, h.s5, fun q hq => ?_, os, g.f _ _ mo h1, by omega, fun v hv => ?_⟩
  · obtain ⟨c1, c2, c3⟩ := h.cs q hq
    exact ⟨g.f _ _ c2 c1, kp c1 c2, c3⟩
  · obtain ⟨t, b, L', F', R', rows2, rs2, e, ht, hp, ap, n1, n2⟩ := (h3 v hv)
    refine ⟨t, b, L', F', R', rows2, rs2, e, g.f _ _ (fun m => ?_) ht, hp.go h.p ap g, ap.go1 g hp, n1, n2⟩
    have := h.p.mu _ m
    rw [ht] at this
    exact this
theorem Lw.twin {K : PySem.W.Frag} {H H1 H2 : Hp} {st scr Ov a L F R a2 L2 F2 R' t : Addr} {ks fs : List Str} {rows rs rows2 : List Tr} {cs : List (Addr × HO)} {n : Nat} {ws os : List V} (h : Lw K H st scr Ov a L F R ks fs rows rs cs n)
    (hR : H R = some (.lst ws)) (hos : H Ov = some (.lst os)) (nR : H R' = none) (nt : H t = none) (f1 : Fr (fun b => b = Ov) H H1) (hR1 : H1 R' = some (.lst ws)) (ht1 : H1 t = some (.tup [.ref a, .ref R'])) (ho1 : H1 Ov = some (.lst (os ++ [.ref t])))
    (s2 : Same H1 H2) (nL : H1 L2 = none) (nF : H1 F2 = none) (fr : ∀ x ∈ rows2, H1 x.p = none ∧ H1 x.c = none) (nd : Nd rows2) (er : rows2.map (·.r) = rows.map (·.r)) (hT : TbAt K H2 a2 L2 F2 ks fs rows2) : Lw K H2 st scr Ov a2 L2 F2 R ks fs rows2 rs cs (n + 1) := by
  obtain ⟨os', e0, h2, h3⟩ := h.os
  cases hos.symm.trans e0
  obtain ⟨ws', e1, hws⟩ := h.p.wr
  cases hR.symm.trans e1
  have muO : ∀ b, b = Ov → MutO (H b) := fun b e => by rw [e, hos]; trivial
  have f2 : Fr (fun b => b = Ov) H H2 := f1.trans (Fr.same s2)
  have p1 : Pr K H2 a L F R ks fs rows rs := h.p.keep f2 (fun b hb e => h.s2 (e ▸ hb)) muO
  have al : ∀ {b o}, H b = some o → ¬ H1 b = none := fun {b o} hb => by
    by_cases e : b = Ov
    · rw [e, ho1]; exact fun z => nomatch z
    · rw [f1 _ _ e hb]; exact fun z => nomatch z
  have fpn : ∀ b ∈ fpT L2 F2 rows2, H1 b = none := fun b hb => by
    rcases mem_fpT.mp hb with rfl | rfl | hb
    · exact nL
    · exact nF
    · obtain ⟨x, hx, e⟩ := mem_dicts.mp hb
      rcases e with rfl | rfl
      · exact (fr x hx).1
      · exact (fr x hx).2
  have new : ∀ {b o}, H b = some o → b ∉ fpT L2 F2 rows2 := fun {b o} hb m => al hb (fpn b m)
  have mR : mutS L F R rows R := .inl rfl
  have uR : ∀ {b o}, H b = some o → b ∉ useS L F R rows rs → b ∉ useS L2 F2 R rows2 rs := fun {b o} hb m m' => by
    rcases mem_useS.mp m' with (m' | m') | m'
    · exact m (mem_useS.mpr (.inl (.inl m')))
    · exact new hb m'
    · exact m (mem_useS.mpr (.inr m'))
  have uM : ∀ {b o}, H b = some o → ¬ mutS L F R rows b → ¬ mutS L2 F2 R rows2 b := fun {b o} hb m m' => by
    rcases m' with m' | m'
    · exact m (.inl m')
    · exact new hb m'
  have l2 : rows2.length = rows.length := by
    have := congrArg List.length er
    rwa [List.length_map, List.length_map] at this
  have ROv : R ≠ Ov := fun e => h.s2 (mem_useS.mpr (.inl (.inl e.symm)))
  have dOv : ∀ b ∈ dicts rs, b ≠ Ov := fun b hb e => h.s2 (mem_useS.mpr (.inr (e ▸ hb)))
  obtain ⟨_, _, _, _, _, g1, g2, _⟩ := id h.d
  have alU : ∀ b ∈ useS L F R rows rs, ∃ o, H b = some o := fun b hb => by
    cases e : H b with
    | none => exact absurd e (h.p.got hb)
    | some o => exact ⟨o, rfl⟩
  have stO : st ≠ Ov := h.s4.symm
  refine ⟨⟨hT, p1.wr, h.p.e.trans er.symm, nd, by rw [er]; exact h.p.ok, fun e => new hR (e ▸ mem_fpT.mpr (.inl rfl)), fun b hb m => ?_⟩, h.d.keep f2 stO h.s5.symm, by have := h.nl; omega, uR g1 h.s1, uR hos h.s2, uM g2 h.s3, h.s4, h.s5, fun q hq => ?_, os ++ [.ref t], s2 _ _ ho1, by rw [List.length_append]; show os.length + 1 ≤ n + 1; omega, fun v hv => ?_⟩
  · obtain ⟨o, ho⟩ := alU b (mem_useS.mpr (.inr hb))
    exact new ho m
  · obtain ⟨c1, c2, c3, c4⟩ := h.cs q hq
    exact ⟨f2 _ _ c4 c1, uM c1 c2, c3, c4⟩
  · rcases List.mem_append.mp hv with hv | hv
    · obtain ⟨t', b, L', F', R'', rows', rs', e, ht, hp, ap, n1, n2⟩ := h3 v hv
      refine ⟨t', b, L', F', R'', rows', rs', e, f2 _ _ (fun e => by rw [e, hos] at ht; cases ht) ht, hp.keep f2 (fun b hb e => n2 (e ▸ hb)) muO, fun b hb u => ?_, n1, n2⟩
      rcases hb with hb | hb
      · exact ap b (.inl hb) u
      · cases e : H b with
        | none => exact hp.got u e
        | some o => exact new e hb
    · rw [List.mem_singleton.mp hv]
      refine ⟨t, a, L, F, R', rows, rs, rfl, s2 _ _ ht1, ?_, fun b hb u => ?_, fun u => ?_, fun u => ?_⟩
      · refine ⟨p1.T, ⟨ws, s2 _ _ hR1, ?_⟩, p1.e, p1.nd, p1.ok, fun e => ?_, p1.dj⟩
        · obtain ⟨ws2, e2, hw2⟩ := p1.wr
          rw [f2 _ _ ROv hR] at e2
          cases e2
          exact hw2
        · exact h.p.got (mem_useS.mpr (.inl (.inr (mem_fpT.mpr (.inl e))))) nR
      · have hR' : b = R' → False := fun e => by
          rcases hb with hb | hb
          · rw [← hb, e, nR] at hR; cases hR
          · exact absurd (e ▸ fpn b hb) (by rw [hR1]; exact fun z => nomatch z)
        rcases mem_useS.mp u with (u | u) | u
        · exact hR' u
        · rcases hb with hb | hb
          · have := h.p.RL
            rcases mem_fpT.mp u with u | u | u
            · exact this (hb.symm.trans u)
            · obtain ⟨_, _, _, _, _, _, _, _, _, _, _, _, h7, _⟩ := h.p.T
              rw [← u, hb, hR] at h7; cases h7
            · obtain ⟨_, _, _, _, _, _, _, _, _, _, _, h6, _⟩ := h.p.T
              obtain ⟨_, e⟩ := rows_dict h6 u
              rw [hb, hR] at e; cases e
          · obtain ⟨o, ho⟩ := alU b (mem_useS.mpr (.inl (.inr u)))
            exact new ho hb
        · rcases hb with hb | hb
          · obtain ⟨_, e⟩ := rows_dict hws u
            rw [hb, hR] at e; cases e
          · obtain ⟨o, ho⟩ := alU b (mem_useS.mpr (.inr u))
            exact new ho hb
      · rcases mem_useS.mp u with (u | u) | u
        · rw [← u, g1] at nR; cases nR
        · exact h.s1 (mem_useS.mpr (.inl (.inr u)))
        · exact h.s1 (mem_useS.mpr (.inr u))
      · rcases mem_useS.mp u with (u | u) | u
        · rw [← u, hos] at nR; cases nR
        · exact h.s2 (mem_useS.mpr (.inl (.inr u)))
        · exact h.s2 (mem_useS.mpr (.inr u))
end
section
variable {P : Program} {w : World} {K : PySem.W.Frag} {mg : Str → Option Value} {base : Heap}
variable {a_BadRow a_ElseputError a_NoRow a_Table a_Taken a_UnknownField a_UnknownKey a_UnknownName : Addr}
def spLaw (K : PySem.W.Frag) : Sp := fun vs H Q _ => ∃ (a : Addr) (ns : List Int), vs = [.ref a] ∧ SqL K H a (ns.map V.int) ∧ ns.length ≤ 63 ∧ ∀ H', Q (.bl true) H'
abbrev sp_law := spLaw
theorem len_law {vs : List V} {H : Hp} {Q : VK} {E : XK} (h : sp_law K vs H Q E) : vs.length = 1 := by
  obtain ⟨_, _, rfl, _⟩ := h
  rfl
/-- the names' values, written flat -/
theorem g_is {i : Nat} {v : V} {σ : L2.St} {H : Hp} {Q : L2.St → Hp → Prop} (σ' : L2.St) (e : σ.set i (some v) = σ') (h : Q σ' H) : gName i v σ H Q := by
  unfold gName
  rw [e]
  exact h
theorem nine {zs : List Str} (h : zs.length = 9) : ∃ z0 z1 z2 z3 z4 z5 z6 z7 z8, zs = [z0, z1, z2, z3, z4, z5, z6, z7, z8] := match zs, h with
  | [z0, z1, z2, z3, z4, z5, z6, z7, z8], _ => ⟨z0, z1, z2, z3, z4, z5, z6, z7, z8, rfl⟩
theorem ok_law {f : Addr} {fd : FuncData} {f__law_state : Addr} {fd__law_state : FuncData} {f__law_names : Addr} {fd__law_names : FuncData} {f__law_values : Addr} {fd__law_values : FuncData} {f__law_twins_apart : Addr} {fd__law_twins_apart : FuncData} {f__law_new_row : Addr} {fd__law_new_row : FuncData} {f__law_is_table : Addr} {fd__law_is_table : FuncData} {f__law_draw : Addr} {fd__law_draw : FuncData} {f__law_puts : Addr} {fd__law_puts : FuncData} {f__law_number : Addr} {fd__law_number : FuncData} {f__law_writes : Addr} {fd__law_writes : FuncData} {f__law_pick : Addr} {fd__law_pick : FuncData} {f_Table___init__ : Addr} {fd_Table___init__ : FuncData} {f_Table_twin : Addr} {fd_Table_twin : FuncData} (F : Fun K "law" "law" s_law f fd) (T : Gs K mg a_BadRow a_ElseputError a_NoRow a_Table a_Taken a_UnknownField a_UnknownKey a_UnknownName) (c__law_state : Cal P w K mg base CX0 1 "_law_state" f__law_state fd__law_state ["_law_script"] (sp__law_state K)) (c__law_names : Cal P w K mg base CX0 2 "_law_names" f__law_names fd__law_names ["_law_state_here", "_law_many"] (sp__law_names K)) (c__law_values : Cal P w K mg base CX0 4 "_law_values" f__law_values fd__law_values ["_law_state_here"] (sp__law_values K)) (c__law_twins_apart : Cal P w K mg base CX0 29 "_law_twins_apart" f__law_twins_apart fd__law_twins_apart ["_law_table", "_law_keys", "_law_fields", "_law_rows", "_law_values_here", "_law_others"] (sp__law_twins_apart K)) (c__law_new_row : Cal P w K mg base CX0 3 "_law_new_row" f__law_new_row fd__law_new_row ["_law_state_here", "_law_keys", "_law_fields", "_law_values_here", "_law_others", "_law_k"] (sp__law_new_row K)) (c__law_is_table : Cal P w K mg base CX0 27 "_law_is_table" f__law_is_table fd__law_is_table ["_law_table", "_law_keys", "_law_rows", "_law_values_here", "_law_others"] (sp__law_is_table K)) (c__law_draw : Cal P w K mg base CX0 1 "_law_draw" f__law_draw fd__law_draw ["_law_state_here", "_law_many"] (sp__law_draw K)) (c__law_puts : Cal P w K mg base CX0 28 "_law_puts" f__law_puts fd__law_puts ["_law_table", "_law_keys", "_law_fields", "_law_rows", "_law_word", "_law_pair"] (sp__law_puts K)) (c__law_number : Cal P w K mg base CX0 2 "_law_number" f__law_number fd__law_number ["_law_state_here"] (sp__law_number K)) (c__law_writes : Cal P w K mg base CX0 27 "_law_writes" f__law_writes fd__law_writes ["_law_table", "_law_fields", "_law_rows", "_law_row", "_law_field", "_law_number_here"] (sp__law_writes K)) (c__law_pick : Cal P w K mg base CX0 2 "_law_pick" f__law_pick fd__law_pick ["_law_state_here", "_law_row"] (sp__law_pick K)) (c_Table___init__ : CalI P w K mg base CX0 1 "Table" a_Table f_Table___init__ fd_Table___init__ ["self", "key_names", "field_names"] (sp_Table___init__ K)) (c_Table_twin : CalM P w K mg base CX0 5 a_Table "twin" f_Table_twin fd_Table_twin ["self"] (sp_Table_twin K)) : FnOk P w K mg base CX0 80 f fd ["_law_script"] (sp_law K) := by
  refine F.ok sc_law (fun vs H Q E h => len_law h) (fun cdv A outer s H vs Q E hr h => ?_)
  obtain ⟨a, ns, rfl, hS, hl, q⟩ := h
  refine ⟨_, (pss_cons (ps_set (i := 1) sc_law.nd rfl (.inl rfl) (pe_call c__law_state.G (hr.mono (by first | decide | omega)) rfl c__law_state.m c__law_state.kp c__law_state.b .nil pass0 (pa_cons (v_ 0) pa_nil))) (pss_cons (ps_set (i := 2) sc_law.nd rfl (.inl rfl) (pe_call c__law_names.G (hr.mono (by first | decide | omega)) rfl c__law_names.m c__law_names.kp c__law_names.b .nil pass0 (pa_cons (v_ 1) (pa_cons pe_int pa_nil)))) (pss_cons (ps_set (i := 3) sc_law.nd rfl (.inl rfl) (pe_slice (slK K) (v_ 2) po_none (po_some (pe_op op_subM pe_int (pe_call c__law_draw.G (hr.mono (by first | decide | omega)) rfl c__law_draw.m c__law_draw.kp c__law_draw.b .nil pass0 (pa_cons (v_ 1) (pa_cons pe_int pa_nil))))))) (pss_cons (ps_set (i := 4) sc_law.nd rfl (.inl rfl) (pe_slice (slK K) (v_ 2) (po_some pe_int) (po_some (pe_op op_subM pe_int (pe_call c__law_draw.G (hr.mono (by first | decide | omega)) rfl c__law_draw.m c__law_draw.kp c__law_draw.b .nil pass0 (pa_cons (v_ 1) (pa_cons pe_int pa_nil))))))) (pss_cons (ps_set (i := 5) sc_law.nd rfl (.inl rfl) (pe_lst (pa_cons (e_x K (v_ 2) pe_int) (pa_cons (e_x K (v_ 2) pe_int) (pa_cons (e_x K (v_ 4) pe_int) pa_nil))))) (pss_cons (ps_set (i := 6) sc_law.nd rfl (.inl rfl) (pe_call c__law_values.G (hr.mono (by first | decide | omega)) rfl c__law_values.m c__law_values.kp c__law_values.b .nil pass0 (pa_cons (v_ 1) pa_nil))) (pss_cons (ps_set (i := 7) sc_law.nd rfl (.inl rfl) (pe_lst (pa_cons (pe_callTy (listK K) (by rfl) T.z_list (by decide +kernel) (pa_cons (v_ 3) pa_nil)) (pa_cons (pe_callTy (listK K) (by rfl) T.z_list (by decide +kernel) (pa_cons (v_ 4) pa_nil)) pa_nil)))) (pss_cons (ps_set (i := 8) sc_law.nd rfl (.inl rfl) (pe_make c_Table___init__.mkc c_Table___init__.G (hr.mono (by first | decide | omega)) rfl c_Table___init__.m c_Table___init__.b .nil pass0 (pa_cons (e_x K (v_ 7) pe_int) (pa_cons (e_x K (v_ 7) pe_int) pa_nil)))) (pss_cons (ps_expr (pe_bm0 PySem.F.plainAttrs_list PySem.F.slot_list_clear PySem.F.type_list_clear mt_clear (e_x K (v_ 7) pe_int))) (pss_cons (ps_expr (pe_bm0 PySem.F.plainAttrs_list PySem.F.slot_list_clear PySem.F.type_list_clear mt_clear (e_x K (v_ 7) pe_int))) (pss_cons (ps_set (i := 9) sc_law.nd rfl (.inl rfl) (pe_lst pa_nil)) (pss_cons (ps_set (i := 10) sc_law.nd rfl (.inl rfl) (pe_lst pa_nil)) (pss_cons (ps_for PassesOwn.never rfl (pi_range1 rfl T.z_range (pa_cons pe_int pa_nil)) (pg_name (i := 11) sc_law.nd rfl (.inl rfl)) (pss_cons (ps_set (i := 13) sc_law.nd rfl (.inl rfl) (pe_op op_modM (pe_callTy call_intM (by rfl) T.z_int (by decide +kernel) (pa_cons (pe_op (addK K) (v_ 11) (pe_call c__law_draw.G (hr.mono (by first | decide | omega)) rfl c__law_draw.m c__law_draw.kp c__law_draw.b .nil pass0 (pa_cons (v_ 1) (pa_cons pe_int pa_nil)))) pa_nil)) pe_int)) (Evl.pss_cut (ps_if (pt_c op_ltM (v_ 13) pe_int) (pss_cons (ps_set (i := 14) sc_law.nd rfl (.inl rfl) pe_str) (Evl.pss_cut (ps_if (pt_c op_gtM (v_ 13) pe_int) (pss_one (ps_set (i := 14) sc_law.nd rfl (.inl rfl) pe_str)) pss_nil) (pss_cons (ps_set (i := 15) sc_law.nd rfl (.inl rfl) (pe_call c__law_new_row.G (hr.mono (by first | decide | omega)) rfl c__law_new_row.m c__law_new_row.kp c__law_new_row.b .nil pass0 (pa_cons (v_ 1) (pa_cons (v_ 3) (pa_cons (v_ 4) (pa_cons (v_ 6) (pa_cons (v_ 5) (pa_cons (v_ 11) pa_nil)))))))) (pss_one (ps_if (pt_not (pt_t K (pe_call c__law_puts.G (hr.mono (by first | decide | omega)) rfl c__law_puts.m c__law_puts.kp c__law_puts.b .nil pass0 (pa_cons (v_ 8) (pa_cons (v_ 3) (pa_cons (v_ 4) (pa_cons (v_ 9) (pa_cons (v_ 14) (pa_cons (v_ 15) pa_nil))))))))) (pss_one (ps_ret pe_bl)) pss_nil))))) (pss_one (ps_if (pt_c (eqK K hr.units) (v_ 13) pe_int) (pss_cons (ps_set (i := 16) sc_law.nd rfl (.inl rfl) (pe_op op_subM (pe_call c__law_draw.G (hr.mono (by first | decide | omega)) rfl c__law_draw.m c__law_draw.kp c__law_draw.b .nil pass0 (pa_cons (v_ 1) (pa_cons (pe_op (addK K) (pe_callB (lenK K) (by rfl) T.z_len PySem.boot_len (pa_cons (v_ 9) pa_nil)) pe_int) pa_nil))) pe_int)) (pss_cons (ps_set (i := 17) sc_law.nd rfl (.inl rfl) (pe_call c__law_number.G (hr.mono (by first | decide | omega)) rfl c__law_number.m c__law_number.kp c__law_number.b .nil pass0 (pa_cons (v_ 1) pa_nil))) (Evl.pss_cut (ps_if (pt_c (eqK K hr.units) (pe_call c__law_draw.G (hr.mono (by first | decide | omega)) rfl c__law_draw.m c__law_draw.kp c__law_draw.b .nil pass0 (pa_cons (v_ 1) (pa_cons pe_int pa_nil))) pe_int) (pss_one (ps_set (i := 17) sc_law.nd rfl (.inl rfl) (pe_op (addK K) (pe_op op_powM pe_int pe_int) (pe_call c__law_draw.G (hr.mono (by first | decide | omega)) rfl c__law_draw.m c__law_draw.kp c__law_draw.b .nil pass0 (pa_cons (v_ 1) (pa_cons (pe_op op_powM pe_int pe_int) pa_nil)))))) pss_nil) (pss_one (ps_if (pt_not (pt_t K (pe_call c__law_writes.G (hr.mono (by first | decide | omega)) rfl c__law_writes.m c__law_writes.kp c__law_writes.b .nil pass0 (pa_cons (v_ 8) (pa_cons (v_ 4) (pa_cons (v_ 9) (pa_cons (v_ 16) (pa_cons (pe_call c__law_pick.G (hr.mono (by first | decide | omega)) rfl c__law_pick.m c__law_pick.kp c__law_pick.b .nil pass0 (pa_cons (v_ 1) (pa_cons (pe_op (addK K) (v_ 4) (pe_lst (pa_cons (e_x K (v_ 2) pe_int) (pa_cons (e_x K (v_ 3) pe_int) pa_nil)))) pa_nil))) (pa_cons (v_ 17) pa_nil))))))))) (pss_one (ps_ret pe_bl)) pss_nil))))) (pss_cons (ps_expr (pe_bm PySem.F.plainAttrs_list PySem.F.slot_list_append PySem.F.type_list_append mt_append (v_ 10) (pa_cons (pe_tup (pa_cons (v_ 8) (pa_cons (pe_callTy (listK K) (by rfl) T.z_list (by decide +kernel) (pa_cons (v_ 9) pa_nil)) pa_nil))) pa_nil))) (pss_one (ps_set (i := 8) sc_law.nd rfl (.inl rfl) (pe_meth0 (v_ 8) c_Table_twin.cl c_Table_twin.me c_Table_twin.G (hr.mono (by first | decide | omega)) c_Table_twin.b .nil pass0))))))) (pss_one (ps_if (pt_not (pt_t K (pe_call c__law_is_table.G (hr.mono (by first | decide | omega)) rfl c__law_is_table.m c__law_is_table.kp c__law_is_table.b .nil pass0 (pa_cons (v_ 8) (pa_cons (v_ 3) (pa_cons (v_ 9) (pa_cons (v_ 6) (pa_cons (v_ 5) pa_nil)))))))) (pss_one (ps_ret pe_bl)) pss_nil))))) (pss_cons (ps_for PassesOwn.never rfl (pi_list (v_ 10)) (pg_name (i := 12) sc_law.nd rfl (.inl rfl)) (pss_one (ps_if (pt_not (pt_t K (pe_call c__law_is_table.G (hr.mono (by first | decide | omega)) rfl c__law_is_table.m c__law_is_table.kp c__law_is_table.b .nil pass0 (pa_cons (e_x K (v_ 12) pe_int) (pa_cons (v_ 3) (pa_cons (e_x K (v_ 12) pe_int) (pa_cons (v_ 6) (pa_cons (v_ 5) pa_nil)))))))) (pss_one (ps_ret pe_bl)) pss_nil))) (pss_one (ps_ret (pe_call c__law_twins_apart.G (hr.mono (by first | decide | omega)) rfl c__law_twins_apart.m c__law_twins_apart.kp c__law_twins_apart.b .nil pass0 (pa_cons (v_ 8) (pa_cons (v_ 3) (pa_cons (v_ 4) (pa_cons (v_ 9) (pa_cons (v_ 6) (pa_cons (v_ 5) pa_nil))))))))))))))))))))))), ?_⟩
  refine ⟨a, ns, rfl, hS, hl, fun H1 st scr _ _ _ d1 => ?_⟩
  refine ⟨st, scr, 9, rfl, d1, by decide, fun H2 p zs b2 d2 np hp lz hz nz => ?_⟩
  have pst : p ≠ st := d1.ne_new np
  clear b2 d1 hS
  obtain ⟨z0, z1, z2, z3, z4, z5, z6, z7, z8, ezs⟩ := nine lz
  have zok : ∀ z ∈ zs, z.length ≤ 1000 ∧ Asc z := fun z m => ⟨by have := (hz z m).2; omega, isName_asc (hz z m).1⟩
  -- the keys
  refine ⟨st, scr, 4, rfl, d2, by decide, many_small (by decide) (by decide), fun r l r0 r1 d3 => ?_⟩
  have hp3 : upd H2 st (.lst l) p = some (.lst (zs.map V.str)) := by rw [upd_ne pst]; exact hp
  generalize upd H2 st (.lst l) = H3 at d3 hp3 ⊢
  refine ⟨4 - r, rfl, .inl ⟨_, SqL.of hp3, fun kk nkk => ?_⟩⟩
  rw [cutV_take _ (by omega)]
  obtain ⟨ks, hks⟩ : ∃ ks, ks = zs.take (4 - r).toNat := ⟨_, rfl⟩
  have s4 := same_new (o := .lst ((zs.map V.str).take (4 - r).toNat)) nkk
  have hkk : upd H3 kk (.lst ((zs.map V.str).take (4 - r).toNat)) kk = some (.lst (ks.map V.str)) := by rw [upd_same, hks, List.map_take]
  have kst := d3.ne_new nkk
  generalize upd H3 kk (.lst ((zs.map V.str).take (4 - r).toNat)) = H4 at s4 hkk ⊢
  have hp4 := s4 _ _ hp3
  have d4 := d3.new s4
  clear s4 hp3 d3 nkk hp d2 np
  -- the fields
  refine ⟨4, rfl, st, scr, 3, rfl, d4, by decide, many_small (by decide) (by decide), fun r' l' r0' r1' d5 => ?_⟩
  have hp5 : upd H4 st (.lst l') p = some (.lst (zs.map V.str)) := by rw [upd_ne pst]; exact hp4
  have hkk5 : upd H4 st (.lst l') kk = some (.lst (ks.map V.str)) := by rw [upd_ne kst]; exact hkk
  generalize upd H4 st (.lst l') = H5 at d5 hp5 hkk5 ⊢
  refine ⟨7 - r', rfl, .inl ⟨_, SqL.of hp5, fun ff nff => ?_⟩⟩
  have cut : cutV (zs.map V.str) (some 4) (some (7 - r')) = ((zs.map V.str).drop 4).take ((7 - r').toNat - 4) := by
    have := cutV_mid (zs.map V.str) (a := 4) (b := (7 - r').toNat) (by omega)
    rwa [show (((7 - r').toNat : Nat) : Int) = 7 - r' by omega] at this
  rw [cut]
  obtain ⟨fs, hfs⟩ : ∃ fs, fs = (zs.drop 4).take ((7 - r').toNat - 4) := ⟨_, rfl⟩
  have s6 := same_new (o := .lst (((zs.map V.str).drop 4).take ((7 - r').toNat - 4))) nff
  have hff : upd H5 ff (.lst (((zs.map V.str).drop 4).take ((7 - r').toNat - 4))) ff = some (.lst (fs.map V.str)) := by rw [upd_same, hfs, List.map_take, List.map_drop]
  have fst' := d5.ne_new nff
  generalize upd H5 ff (.lst (((zs.map V.str).drop 4).take ((7 - r').toNat - 4))) = H6 at s6 hff ⊢
  have hp6 := s6 _ _ hp5
  have hkk6 := s6 _ _ hkk5
  have d6 := d5.new s6
  clear s6 hp5 hkk5 d5 nff hp4 hkk d4 cut
  have ksub : ∀ z ∈ ks, z ∈ [z0, z1, z2, z3] := fun z hz => by
    rw [hks, ezs] at hz
    have : List.take (4 - r).toNat [z0, z1, z2, z3, z4, z5, z6, z7, z8] = List.take (4 - r).toNat [z0, z1, z2, z3] := by
      have e : [z0, z1, z2, z3] = List.take 4 [z0, z1, z2, z3, z4, z5, z6, z7, z8] := rfl
      rw [e, List.take_take, Nat.min_eq_left (by omega)]
    rw [this] at hz
    exact List.mem_of_mem_take hz
  have kl : ks.length = (4 - r).toNat := by rw [hks, List.length_take, lz, Nat.min_eq_left (by omega)]
  have fsub : ∀ z ∈ fs, z ∈ [z4, z5, z6] := fun z hz => by
    rw [hfs, ezs] at hz
    have : List.take ((7 - r').toNat - 4) (List.drop 4 [z0, z1, z2, z3, z4, z5, z6, z7, z8]) = List.take ((7 - r').toNat - 4) [z4, z5, z6] := by
      have e : [z4, z5, z6] = List.take 3 (List.drop 4 [z0, z1, z2, z3, z4, z5, z6, z7, z8]) := rfl
      rw [e, List.take_take, Nat.min_eq_left (by omega)]
    rw [this] at hz
    exact List.mem_of_mem_take hz
  have fl : fs.length = (7 - r').toNat - 4 := by rw [hfs, List.length_take, List.length_drop, lz, Nat.min_eq_left (by omega)]
  have knd : ks.Nodup := by rw [hks]; exact nz.sublist (List.take_sublist _ _)
  have fnd : fs.Nodup := by rw [hfs]; exact nz.sublist ((List.take_sublist _ _).trans (List.drop_sublist _ _))
  have kok : ∀ z ∈ ks, z.length ≤ 1000 ∧ Asc z := fun z hz => zok z (by rw [hks] at hz; exact List.mem_of_mem_take hz)
  have fok : ∀ z ∈ fs, z.length ≤ 1000 ∧ Asc z := fun z hz => zok z (by rw [hfs] at hz; exact List.mem_of_mem_drop (List.mem_of_mem_take hz))
  have f0 : fs[0]? = some z4 := by
    rw [hfs, List.getElem?_take, if_pos (by omega), ezs]
    rfl
  have k0 : ks[0]? = some z0 := by
    rw [hks, List.getElem?_take, if_pos (by omega), ezs]
    rfl
  have n7 : z7 ∉ ks := fun h => by
    have h := ksub _ h
    rw [ezs] at nz
    simp at nz h
    rcases h with h | h | h | h <;> simp [h] at nz
  have n4 : z4 ∉ ks := fun h => by
    have h := ksub _ h
    rw [ezs] at nz
    simp at nz h
    rcases h with h | h | h | h <;> simp [h] at nz
  have kne : ks ≠ [] := fun e => by rw [e] at k0; cases k0
  have fne : fs ≠ [] := fun e => by rw [e] at f0; cases f0
  -- the others
  have a7 : atI (zs.map V.str) (7 : Int) = some (.str z7) := by rw [ezs]; rfl
  have a8 : atI (zs.map V.str) (8 : Int) = some (.str z8) := by rw [ezs]; rfl
  have af0 : atI (fs.map V.str) (0 : Int) = some (.str z4) := atI_nat (j := 0) (by rw [List.getElem?_map, f0]; rfl)
  have ak0 : atI (ks.map V.str) (0 : Int) = some (.str z0) := atI_nat (j := 0) (by rw [List.getElem?_map, k0]; rfl)
  refine ⟨_, .inl (SqL.of hp6), _, a7, _, .inl (SqL.of hp6), _, a8, _, .inl (SqL.of hff), _, af0, (by show 3 ≤ sizeLine; decide), fun oo noo => ?_⟩
  have s7 := same_new (o := .lst [.str z7, .str z8, .str z4]) noo
  have hoo := upd_same (H := H6) (a := oo) (o := .lst [.str z7, .str z8, .str z4])
  have ost := d6.ne_new noo
  have d7 := d6.new s7
  have hp7 := s7 _ _ hp6
  have hkk7 := s7 _ _ hkk6
  have hff7 := s7 _ _ hff
  generalize upd H6 oo (.lst [.str z7, .str z8, .str z4]) = H7 at s7 hoo d7 hp7 hkk7 hff7 ⊢
  clear s7 noo d6 hp6 hkk6 hff
  -- the values
  refine ⟨st, scr, rfl, d7, fun H8 vv ns b8 d8 nvv hvv n4l => ?_⟩
  have vst := d7.ne_new nvv
  have hp8 := b8 _ _ pst hp7
  have hkk8 := b8 _ _ kst hkk7
  have hff8 := b8 _ _ fst' hff7
  have hoo8 := b8 _ _ ost hoo
  clear b8 nvv d7 hp7 hkk7 hff7 hoo
  -- the heads
  refine ⟨kk, _, rfl, .inl (SqL.of hkk8), fun l1 nl1 => ?_⟩
  have s9 := same_new (o := .lst (ks.map V.str)) nl1
  have hl1 := upd_same (H := H8) (a := l1) (o := .lst (ks.map V.str))
  generalize upd H8 l1 (.lst (ks.map V.str)) = H9 at s9 hl1 ⊢
  refine ⟨ff, _, rfl, .inl (SqL.of (s9 _ _ hff8)), fun l2 nl2 => ?_⟩
  have l12 : l1 ≠ l2 := ne_of_none hl1 nl2
  have sa := same_new (o := .lst (fs.map V.str)) nl2
  have hl2 := upd_same (H := H9) (a := l2) (o := .lst (fs.map V.str))
  generalize upd H9 l2 (.lst (fs.map V.str)) = HA at sa hl2 ⊢
  refine ⟨(by show 2 ≤ sizeLine; decide), fun hd nhd => ?_⟩
  have sb := same_new (o := .lst [.ref l1, .ref l2]) nhd
  have hhd := upd_same (H := HA) (a := hd) (o := .lst [.ref l1, .ref l2])
  generalize upd HA hd (.lst [.ref l1, .ref l2]) = HB at sb hhd ⊢
  have s8B := s9.trans (sa.trans sb)
  have hl1 := sb _ _ (sa _ _ hl1)
  have hl2 := sb _ _ hl2
  have n18 : H8 l1 = none := nl1
  have n28 : H8 l2 = none := Same.free s9 nl2
  have h0' : atI [V.ref l1, .ref l2] (0 : Int) = some (.ref l1) := rfl
  have h1' : atI [V.ref l1, .ref l2] (1 : Int) = some (.ref l2) := rfl
  refine ⟨_, .inl (SqL.of hhd), _, h0', _, .inl (SqL.of hhd), _, h1', ?_⟩
  intro x dx nx nd ne
  have sm : Same HB (upd (upd HB dx (.own x)) x (.ins a_Table dx [])) := same_mk nx nd
  refine ⟨x, l1, l2, a_Table, dx, ks, fs, rfl, T.n_Table, upd_same, .inl (sm _ _ hl1), .inl (sm _ _ hl2), fun HC L F b1 nL nF LF hT => ⟨rfl, ?_⟩⟩
  have sC : Same HB HC := fun c o hc => b1 _ _ (ne_of_none hc nx) (sm _ _ hc)
  have L0 : HB L = none := free_new (free_new nL)
  have F0 : HB F = none := free_new (free_new nF)
  have hhd := sC _ _ hhd
  have hl1C := sC _ _ hl1
  have hl2C := sC _ _ hl2
  have s8C := s8B.trans sC
  clear sm b1 nL nF sC
  -- the heads emptied
  refine ⟨_, .inl (SqL.of hhd), .ref l1, h0', .inl ⟨rfl, _, SqL.of hl1C⟩, l1, _, rfl, rfl, hl1C, ?_⟩
  have hdl1 : hd ≠ l1 := fun e => by
    rw [e, hl1C] at hhd
    cases hks' : ks with
    | nil => exact kne hks'
    | cons k r => rw [hks'] at hhd; cases hhd
  have hhdD : upd HC l1 (.lst []) hd = some (.lst [.ref l1, .ref l2]) := by rw [upd_ne hdl1]; exact hhd
  have hl2D : upd HC l1 (.lst []) l2 = some (.lst (fs.map V.str)) := by rw [upd_ne l12.symm]; exact hl2C
  refine ⟨_, .inl (SqL.of hhdD), .ref l2, h1', .inl ⟨rfl, _, SqL.of hl2D⟩, l2, _, rfl, rfl, hl2D, ?_⟩
  have fN : Fr (fun b => b = l1 ∨ b = l2) HC (upd (upd HC l1 (.lst [])) l2 (.lst [])) := fun b o n hb => by
    rw [upd_ne (fun e => n (.inr e)), upd_ne (fun e => n (.inl e))]
    exact hb
  have muN : ∀ b, (b = l1 ∨ b = l2) → MutO (HC b) := fun b hb => by
    rcases hb with rfl | rfl
    · rw [hl1C]; trivial
    · rw [hl2C]; trivial
  have lB : ∀ {b}, b = l1 ∨ b = l2 → H8 b = none := fun {b} hb => by
    rcases hb with rfl | rfl
    · exact n18
    · exact n28
  have kN : ∀ {b o}, H8 b = some o → upd (upd HC l1 (.lst [])) l2 (.lst []) b = some o := fun {b o} hb => fN _ _ (fun n => by rw [lB n] at hb; cases hb) (s8C _ _ hb)
  have hTE := hT.keep fN (fun b hb n => by
    rcases mem_fpT.mp hb with hb | hb | hb
    · rcases n with n | n
      · rw [← hb, n, hl1] at L0; cases L0
      · rw [← hb, n, hl2] at L0; cases L0
    · rcases n with n | n
      · rw [← hb, n, hl1] at F0; cases F0
      · rw [← hb, n, hl2] at F0; cases F0
    · cases hb) muN
  have dE := (d8.new s8C).keep fN (fun n => n.elim (fun e => d8.ne_new n18 e.symm) (fun e => d8.ne_new n28 e.symm)) (fun n => n.elim (fun e => d8.ne_scr n18 e.symm) (fun e => d8.ne_scr n28 e.symm))
  generalize upd (upd HC l1 (.lst [])) l2 (.lst []) = HE at kN hTE dE ⊢
  -- the rows and the olds
  refine ⟨(by show 0 ≤ sizeLine; decide), fun R nR => ?_⟩
  have sR := same_new (o := .lst []) nR
  have hR := upd_same (H := HE) (a := R) (o := .lst [])
  generalize upd HE R (.lst []) = HF at sR hR ⊢
  refine ⟨(by show 0 ≤ sizeLine; decide), fun Ov nO => ?_⟩
  have sO := same_new (o := .lst []) nO
  have hO := upd_same (H := HF) (a := Ov) (o := .lst [])
  have OR : Ov ≠ R := (ne_of_none hR nO).symm
  have hR := sO _ _ hR
  generalize upd HF Ov (.lst []) = HG at sO hO hR ⊢
  have sG := sR.trans sO
  have nOE : HE Ov = none := Same.free sR nO
  have L8 : H8 L = none := Same.free s8B L0
  have F8 : H8 F = none := Same.free s8B F0
  have gotL : ¬ HE L = none := fpT_got hTE (mem_fpT.mpr (.inl rfl))
  have gotF : ¬ HE F = none := fpT_got hTE (mem_fpT.mpr (.inr (.inl rfl)))
  have u0 : ∀ {b}, b ∈ useS L F R [] [] → b = R ∨ b = L ∨ b = F := fun {b} hb => by
    have hb : b ∈ [R, L, F] := hb
    simpa using hb
  have m0 : ∀ {b}, mutS L F R [] b → b = R ∨ b = L ∨ b = F := fun {b} hb => u0 (mem_useS.mpr (.inl hb))
  have keep8 : ∀ {b o}, H8 b = some o → b ≠ st → HG b = some o ∧ ¬ mutS L F R [] b ∧ b ≠ st ∧ b ≠ Ov := fun {b o} hb ne => by
    have hE := kN hb
    refine ⟨sG _ _ hE, fun m => ?_, ne, fun e => by rw [e, nOE] at hE; cases hE⟩
    rcases m0 m with e | e | e
    · rw [e, nR] at hE; cases hE
    · rw [e, L8] at hb; cases hb
    · rw [e, F8] at hb; cases hb
  obtain ⟨cs, hcs⟩ : ∃ cs : List (Addr × HO), cs = [(p, .lst (zs.map V.str)), (kk, .lst (ks.map V.str)), (ff, .lst (fs.map V.str)), (vv, .lst (ns.map V.int)), (oo, .lst [.str z7, .str z8, .str z4])] := ⟨_, rfl⟩
  have W0 : Lw K HG st scr Ov x L F R ks fs [] [] cs 0 := by
    refine ⟨⟨hTE.same sG, ⟨[], hR, .nil⟩, rfl, Nd.nil, ⟨knd, by omega, fnd, by omega, (fun _ h => nomatch h), by decide⟩, fun e => gotL (e ▸ nR), (fun _ h => nomatch h)⟩, dE.new sG, Nat.le_refl _, fun h => ?_, fun h => ?_, fun h => ?_, dE.ne_new nOE, dE.ne_scr nOE, fun q hq => ?_, [], hO, Nat.le_refl _, (fun _ h => nomatch h)⟩
    · rcases u0 h with e | e | e
      · exact dE.ne_new nR e.symm
      · exact d8.ne_new L8 e.symm
      · exact d8.ne_new F8 e.symm
    · rcases u0 h with e | e | e
      · exact OR e
      · exact gotL (e ▸ nOE)
      · exact gotF (e ▸ nOE)
    · rcases m0 h with e | e | e
      · exact dE.ne_scr nR e.symm
      · exact d8.ne_scr L8 e.symm
      · exact d8.ne_scr F8 e.symm
    · rw [hcs] at hq
      rcases List.mem_cons.mp hq with rfl | hq
      · exact keep8 hp8 pst
      rcases List.mem_cons.mp hq with rfl | hq
      · exact keep8 hkk8 kst
      rcases List.mem_cons.mp hq with rfl | hq
      · exact keep8 hff8 fst'
      rcases List.mem_cons.mp hq with rfl | hq
      · exact keep8 hvv vst
      rw [List.mem_singleton.mp hq]
      exact keep8 hoo8 ost
  have cp : (p, HO.lst (zs.map V.str)) ∈ cs := by rw [hcs]; simp
  have ck : (kk, HO.lst (ks.map V.str)) ∈ cs := by rw [hcs]; simp
  have cf : (ff, HO.lst (fs.map V.str)) ∈ cs := by rw [hcs]; simp
  have cv : (vv, HO.lst (ns.map V.int)) ∈ cs := by rw [hcs]; simp
  have co : (oo, HO.lst [.str z7, .str z8, .str z4]) ∈ cs := by rw [hcs]; simp
  have zl : ∀ z ∈ z7 :: z4 :: ks, z.length ≤ 1000 ∧ Asc z := fun z hz => by
    rcases List.mem_cons.mp hz with rfl | hz
    · exact zok _ (by rw [ezs]; simp)
    rcases List.mem_cons.mp hz with rfl | hz
    · exact zok _ (by rw [ezs]; simp)
    · exact kok z hz
  have z8ok := zok z8 (by rw [ezs]; simp)
  have z0ok := zok z0 (by rw [ezs]; simp)
  clear hcs keep8 m0 u0 gotF gotL F8 L8 nOE sG hR OR hO sO nO sR nR kN hTE dE lB muN fN hhdD hl2D hdl1 hhd hl1 hl2 hl1C hl2C hT n18 n28 l12 F0 L0 s8C s8B d8 hp8 hkk8 hff8 hoo8 hvv ne nx nd LF s9 sa sb nl1 nl2 nhd h0' h1' af0 hz
  refine ⟨10, rfl, by decide, by decide, ?_⟩
  refine for_range (lo := 0) (n := 10) (fun i σ' H' => ∃ (tb L F : Addr) (rows rs : List Tr) (y11 y13 y14 y15 y16 y17 : Option V), σ' = [some (.ref a), some (.ref st), some (.ref p), some (.ref kk), some (.ref ff), some (.ref oo), some (.ref vv), some (.ref hd), some (.ref tb), some (.ref R), some (.ref Ov), y11, none, y13, y14, y15, y16, y17] ∧ Lw K H' st scr Ov tb L F R ks fs rows rs cs i) ⟨x, L, F, [], [], _, _, _, _, _, _, rfl, W0⟩ ?_ ?_
  · clear W0
    rintro i σ' H2 hi ⟨tb, L, F, rows, rs, y11, y13, y14, y15, y16, y17, rfl, W⟩
    refine ⟨st, scr, 8, rfl, W.d, by decide, many_small (by decide) (by decide), fun g l g0 g1 d3 => ?_⟩
    have W := W.bt Bt.st d3
    generalize upd H2 st (.lst l) = H3 at W ⊢
    refine ⟨(by decide), ?_⟩
    clear d3
    generalize (0 + (i : Int) + g) % 8 = kd
    refine ⟨fun σ' H' => ∃ (tb L F : Addr) (rows rs : List Tr) (y14 y15 y16 y17 : Option V), σ' = [some (.ref a), some (.ref st), some (.ref p), some (.ref kk), some (.ref ff), some (.ref oo), some (.ref vv), some (.ref hd), some (.ref tb), some (.ref R), some (.ref Ov), some (.int (0 + (i : Int))), none, some (.int kd), y14, y15, y16, y17] ∧ Lw K H' st scr Ov tb L F R ks fs rows rs cs (i + 1), ?_, ?_⟩
    · refine ite2 (fun c => ?_) (fun c => ?_)
      · refine ⟨fun σ' H' => ∃ word : Str, σ' = [some (.ref a), some (.ref st), some (.ref p), some (.ref kk), some (.ref ff), some (.ref oo), some (.ref vv), some (.ref hd), some (.ref tb), some (.ref R), some (.ref Ov), some (.int (0 + (i : Int))), none, some (.int kd), some (.str word), y15, y16, y17] ∧ H' = H3, ?_, ?_⟩
        · exact ite2 (fun _ => ⟨_, rfl, rfl⟩) (fun _ => ⟨_, rfl, rfl⟩)
        rintro σ' H4 ⟨word, rfl, rfl⟩
        refine ⟨st, scr, kk, ff, vv, oo, ks, fs, ns, z7, z8, z4, _, rfl, W.d, (W.cs _ ck).1, (W.cs _ cf).1, (W.cs _ cv).1, n4l, (W.cs _ co).1, by omega, by omega, fnd, fun H5 t pp cc pl ct b5 d5 nt npp ncc pc ht hpp hcc kp kc => ?_⟩
        have W := W.bt b5 d5
        have nl := W.nl
        refine ⟨tb, L, F, R, kk, ff, t, pp, cc, ks, fs, rows, rs, pl, ct, word, rfl, W.p, (W.cs _ ck).1, (W.cs _ cf).1, ht, hpp, hcc, pc, kp.le (by omega), kc, kok, by omega, (W.cs _ ck).2.1, (W.cs _ cf).2.1, fun H6 rows' rs' go gl => ?_⟩
        exact ⟨tb, L, F, rows', rs', _, _, _, _, rfl, W.go go gl⟩
      · refine ite2 (fun c2 => ?_) (fun c2 => ?_)
        · obtain ⟨ws, hR, hws⟩ := W.p.wr
          have nl := W.nl
          have wl := hws.len
          have rl : rs.length = rows.length := by
            have := congrArg List.length W.p.e
            rwa [List.length_map, List.length_map] at this
          refine .inl ⟨_, .inl (SqL.of hR), st, scr, _, rfl, W.d, by omega, many_small (by omega) (by omega), fun g l g0 g1 d4 => ?_⟩
          have W := W.bt Bt.st d4
          generalize upd H3 st (.lst l) = H4 at W ⊢
          clear hR hws d4
          refine ⟨st, scr, rfl, W.d, fun l n bd d5 => ?_⟩
          have W := W.bt Bt.st d5
          generalize upd H4 st (.lst l) = H5 at W ⊢
          clear d5
          refine ⟨fun σ' H' => ∃ n : Int, σ' = [some (.ref a), some (.ref st), some (.ref p), some (.ref kk), some (.ref ff), some (.ref oo), some (.ref vv), some (.ref hd), some (.ref tb), some (.ref R), some (.ref Ov), some (.int (0 + (i : Int))), none, some (.int kd), y14, y15, some (.int (g - 1)), some (.int n)] ∧ Lw K H' st scr Ov tb L F R ks fs rows rs cs i, ?_, ?_⟩
          · refine ⟨st, scr, 4, rfl, W.d, by decide, many_small (by decide) (by decide), fun u l u0 u1 d6 => ?_⟩
            have W := W.bt Bt.st d6
            generalize upd H5 st (.lst l) = H6 at W ⊢
            refine ite2 (fun _ => ?_) (fun _ => ⟨_, rfl, W⟩)
            refine ⟨(by unfold CPow; decide), (by unfold CPow; decide), st, scr, _, rfl, W.d, by decide +kernel, by decide +kernel, fun w l w0 w1 d7 => ?_⟩
            exact ⟨_, rfl, W.bt Bt.st d7⟩
          rintro σ' H6 ⟨n, rfl, W⟩
          refine ⟨_, .inl (SqL.of (W.cs _ cp).1), _, a8, _, .inl (SqL.of (W.cs _ ck).1), _, ak0, (by show 2 ≤ sizeLine; decide), fun u nu => ?_⟩
          have su := same_new (o := .lst [.str z8, .str z0]) nu
          have hu := upd_same (H := H6) (a := u) (o := .lst [.str z8, .str z0])
          generalize upd H6 u (.lst [.str z8, .str z0]) = H7 at su hu ⊢
          have W := W.same su
          refine .inl ⟨_, _, (W.cs _ cf).1, hu, line_of (by rw [List.length_map]; show fs.length + 2 ≤ 100000; omega), fun v nv => ?_⟩
          have sv := same_new (o := .lst (fs.map V.str ++ [.str z8, .str z0])) nv
          have hv := upd_same (H := H7) (a := v) (o := .lst (fs.map V.str ++ [.str z8, .str z0]))
          generalize upd H7 v (.lst (fs.map V.str ++ [.str z8, .str z0])) = H8 at sv hv ⊢
          have vs := W.d.ne_new nv
          have W := W.same sv
          refine ⟨st, scr, .ref v, rfl, W.d, .inr ⟨v, _, rfl, hv, vs, by rw [List.length_append]; show 0 < _ + 2; omega, by rw [List.length_append, List.length_map]; show fs.length + 2 ≤ 1000; omega, fun f l fm d9 => ?_⟩⟩
          have W := W.bt Bt.st d9
          generalize upd H8 st (.lst l) = H9 at W ⊢
          obtain ⟨fn, rfl, fok'⟩ : ∃ z : Str, f = .str z ∧ z.length ≤ 1000 ∧ Asc z := by
            rcases List.mem_append.mp fm with fm | fm
            · obtain ⟨z, hz, rfl⟩ := List.mem_map.mp fm
              exact ⟨z, rfl, fok z hz⟩
            rcases List.mem_cons.mp fm with rfl | fm
            · exact ⟨_, rfl, z8ok⟩
            · exact ⟨_, List.mem_singleton.mp fm, z0ok⟩
          refine ⟨tb, L, F, R, ff, ks, fs, rows, rs, g - 1, n, fn, rfl, W.p, (W.cs _ cf).1, ?_, fok'.1, fok'.2, fun HA rows' rs' go gl => ?_⟩
          · exact Nat.lt_of_le_of_lt (show (g - 1).natAbs ≤ 100 by omega) (by decide)
          · exact ⟨tb, L, F, rows', rs', _, _, _, _, rfl, W.go go (by omega)⟩
        · obtain ⟨ws, hR, hws⟩ := W.p.wr
          obtain ⟨os, hos, ol, -⟩ := W.os
          refine ⟨.inl ⟨rfl, _, SqL.of hos⟩, ?_⟩
          refine ⟨R, ws, rfl, .inl (SqL.of hR), fun R' nR' => ?_⟩
          have s4 := same_new (o := .lst ws) nR'
          have hR4 := upd_same (H := H3) (a := R') (o := .lst ws)
          generalize upd H3 R' (.lst ws) = H4 at s4 hR4 ⊢
          refine ⟨(by show 2 ≤ sizeLine; decide), fun t nt => ?_⟩
          have s5 := same_new (o := .tup [.ref tb, .ref R']) nt
          have ht5 := upd_same (H := H4) (a := t) (o := .tup [.ref tb, .ref R'])
          have nt3 : H3 t = none := Same.free s4 nt
          have hR5 := s5 _ _ hR4
          have s5 := s4.trans s5
          generalize upd H4 t (.tup [.ref tb, .ref R']) = H5 at s5 ht5 hR5 ⊢
          refine ⟨Ov, os, .ref t, rfl, rfl, s5 _ _ hos, line_lt (by omega), ?_⟩
          have f6 : Fr (fun b => b = Ov) H3 (upd H5 Ov (.lst (os ++ [.ref t]))) := fun b o n hb => by rw [upd_ne n]; exact s5 _ _ hb
          have hO6 := upd_same (H := H5) (a := Ov) (o := .lst (os ++ [.ref t]))
          have hR6 : upd H5 Ov (.lst (os ++ [.ref t])) R' = some (.lst ws) := by
            rw [upd_ne (fun e => by rw [e, hos] at nR'; cases nR')]; exact hR5
          have ht6 : upd H5 Ov (.lst (os ++ [.ref t])) t = some (.tup [.ref tb, .ref R']) := by
            rw [upd_ne (fun e => by rw [e, hos] at nt3; cases nt3)]; exact ht5
          show (fun H4 => _) (upd H5 Ov (.lst (os ++ [.ref t])))
          generalize upd H5 Ov (.lst (os ++ [.ref t])) = H6 at f6 hO6 hR6 ht6 ⊢
          have p6 := W.p.keep f6 (fun b hb e => W.s2 (e ▸ hb)) (fun b e => by rw [e, hos]; trivial)
          obtain ⟨C, dx', _, _, _, _, hC, ha6, _⟩ := id p6.T
          cases hC.symm.trans T.n_Table
          refine ⟨tb, dx', _, rfl, ha6, rfl, tb, L, F, ks, fs, rows, rfl, p6.T, p6.ok, fun H7 a2 L2 F2 rows2 s7 na nL nF fr nd er hT2 => ?_⟩
          exact ⟨a2, L2, F2, rows2, rs, _, _, _, _, rfl, W.twin hR hos nR' nt3 f6 hR6 ht6 hO6 s7 nL nF fr nd er hT2⟩
    rintro σ' H4 ⟨tb, L, F, rows, rs, y14, y15, y16, y17, rfl, W⟩
    refine ⟨tb, L, F, kk, R, vv, oo, ks, fs, rows, rs, ns, z7, z8, z4, rfl, W.p, (W.cs _ ck).1, (W.cs _ cv).1, by omega, (W.cs _ co).1, n7, n4, zl, fun H5 s => ?_⟩
    exact ⟨tb, L, F, rows, rs, _, _, _, _, _, _, rfl, W.same s⟩
  clear W0
  rintro σ' H2 ⟨tb, L, F, rows, rs, y11, y13, y14, y15, y16, y17, rfl, W⟩
  obtain ⟨os, hos, ol, hold⟩ := W.os
  refine ⟨Ov, rfl, ⟨_, SqL.of hos⟩, ?_⟩
  refine for_list (K := K) (a := Ov) (xs := os) (fun i σ' H' => (∃ y12, σ' = [some (.ref a), some (.ref st), some (.ref p), some (.ref kk), some (.ref ff), some (.ref oo), some (.ref vv), some (.ref hd), some (.ref tb), some (.ref R), some (.ref Ov), y11, y12, y13, y14, y15, y16, y17]) ∧ Same H2 H') ⟨⟨_, rfl⟩, Same.refl _⟩ (fun _ _ _ _ h => SqL.of (h.2 _ _ hos)) ?_ ?_
  · rintro i v σ' H3 hi ⟨⟨y12, rfl⟩, s3⟩
    have W3 := W.same s3
    obtain ⟨t, b, L', F', R', rows', rs', rfl, ht, hp, _, _, _⟩ := hold v (List.mem_of_getElem? hi)
    have t0 : atI [V.ref b, .ref R'] (0 : Int) = some (.ref b) := rfl
    have t1 : atI [V.ref b, .ref R'] (1 : Int) = some (.ref R') := rfl
    refine ⟨_, .inr (SqT.of (s3 _ _ ht)), _, t0, _, .inr (SqT.of (s3 _ _ ht)), _, t1, ?_⟩
    refine ⟨b, L', F', kk, R', vv, oo, ks, fs, rows', rs', ns, z7, z8, z4, rfl, hp.same s3, (W3.cs _ ck).1, (W3.cs _ cv).1, by omega, (W3.cs _ co).1, n7, n4, zl, fun H5 s => ?_⟩
    exact ⟨⟨_, rfl⟩, s3.trans s⟩
  rintro σ' H3 ⟨⟨y12, rfl⟩, s3⟩
  have W := W.same s3
  have nl := W.nl
  exact ⟨tb, L, F, R, kk, ff, vv, oo, ks, fs, rows, rs, ns, z7, z8, z4, rfl, W.p, (W.cs _ ck).1, (W.cs _ cf).1, (W.cs _ cv).1, n4l, (W.cs _ co).1, n7, n4, zl, fok, kne, fne, by omega, by omega, (W.cs _ ck).2.1, (W.cs _ cf).2.1, (W.cs _ cv).2.1, (W.cs _ co).2.1, q⟩
end
theorem all_mk {l : PySem.W.OpenLaw} {w : World} {K : PySem.W.Frag} {h : Heap} {mg : Str → Option Value} {fa : Addr} {a_BadRow a_ElseputError a_NoRow a_Table a_Taken a_UnknownField a_UnknownKey a_UnknownName : Addr} {f__law_state f__law_draw f__law_pick f__law_mixed f__law_number f__law_constant f__law_values f__law_names f__law_is_int f__law_same f_Table__check_new f_Table__add f_Table___getitem__ f_Table_put f_Table_enter f__law_try_put f__law_put_due f__law_in_order f_Table__check_row f_Table_write f__law_try_write f_Table_content_of f__law_content_told f__law_find f__law_found f_Table_rows f_Table___len__ f__law_is_table f__law_new_row f__law_puts f__law_writes f_Table___init__ f_Table_twin f__law_twins_apart f_law : Addr} {od__law_state an__law_state : Option Addr} {sl__law_state : Array (Option Value)} {oc__law_state kV__law_state dc__law_state pm__law_state cd__law_state ct__law_state : Value} {od__law_draw an__law_draw : Option Addr} {sl__law_draw : Array (Option Value)} {oc__law_draw kV__law_draw dc__law_draw pm__law_draw cd__law_draw ct__law_draw : Value} {od__law_pick an__law_pick : Option Addr} {sl__law_pick : Array (Option Value)} {oc__law_pick kV__law_pick dc__law_pick pm__law_pick cd__law_pick ct__law_pick : Value} {od__law_mixed an__law_mixed : Option Addr} {sl__law_mixed : Array (Option Value)} {oc__law_mixed kV__law_mixed dc__law_mixed pm__law_mixed cd__law_mixed ct__law_mixed : Value} {od__law_number an__law_number : Option Addr} {sl__law_number : Array (Option Value)} {oc__law_number kV__law_number dc__law_number pm__law_number cd__law_number ct__law_number : Value} {od__law_constant an__law_constant : Option Addr} {sl__law_constant : Array (Option Value)} {oc__law_constant kV__law_constant dc__law_constant pm__law_constant cd__law_constant ct__law_constant : Value} {od__law_values an__law_values : Option Addr} {sl__law_values : Array (Option Value)} {oc__law_values kV__law_values dc__law_values pm__law_values cd__law_values ct__law_values : Value} {od__law_names an__law_names : Option Addr} {sl__law_names : Array (Option Value)} {oc__law_names kV__law_names dc__law_names pm__law_names cd__law_names ct__law_names : Value} {od__law_is_int an__law_is_int : Option Addr} {sl__law_is_int : Array (Option Value)} {oc__law_is_int kV__law_is_int dc__law_is_int pm__law_is_int cd__law_is_int ct__law_is_int : Value} {od__law_same an__law_same : Option Addr} {sl__law_same : Array (Option Value)} {oc__law_same kV__law_same dc__law_same pm__law_same cd__law_same ct__law_same : Value} {od_Table__check_new an_Table__check_new : Option Addr} {sl_Table__check_new : Array (Option Value)} {oc_Table__check_new kV_Table__check_new dc_Table__check_new pm_Table__check_new cd_Table__check_new ct_Table__check_new : Value} {od_Table__add an_Table__add : Option Addr} {sl_Table__add : Array (Option Value)} {oc_Table__add kV_Table__add dc_Table__add pm_Table__add cd_Table__add ct_Table__add : Value} {od_Table___getitem__ an_Table___getitem__ : Option Addr} {sl_Table___getitem__ : Array (Option Value)} {oc_Table___getitem__ kV_Table___getitem__ dc_Table___getitem__ pm_Table___getitem__ cd_Table___getitem__ ct_Table___getitem__ : Value} {od_Table_put an_Table_put : Option Addr} {sl_Table_put : Array (Option Value)} {oc_Table_put kV_Table_put dc_Table_put pm_Table_put cd_Table_put ct_Table_put : Value} {od_Table_enter an_Table_enter : Option Addr} {sl_Table_enter : Array (Option Value)} {oc_Table_enter kV_Table_enter dc_Table_enter pm_Table_enter cd_Table_enter ct_Table_enter : Value} {od__law_try_put an__law_try_put : Option Addr} {sl__law_try_put : Array (Option Value)} {oc__law_try_put kV__law_try_put dc__law_try_put pm__law_try_put cd__law_try_put ct__law_try_put : Value} {od__law_put_due an__law_put_due : Option Addr} {sl__law_put_due : Array (Option Value)} {oc__law_put_due kV__law_put_due dc__law_put_due pm__law_put_due cd__law_put_due ct__law_put_due : Value} {od__law_in_order an__law_in_order : Option Addr} {sl__law_in_order : Array (Option Value)} {oc__law_in_order kV__law_in_order dc__law_in_order pm__law_in_order cd__law_in_order ct__law_in_order : Value} {od_Table__check_row an_Table__check_row : Option Addr} {sl_Table__check_row : Array (Option Value)} {oc_Table__check_row kV_Table__check_row dc_Table__check_row pm_Table__check_row cd_Table__check_row ct_Table__check_row : Value} {od_Table_write an_Table_write : Option Addr} {sl_Table_write : Array (Option Value)} {oc_Table_write kV_Table_write dc_Table_write pm_Table_write cd_Table_write ct_Table_write : Value} {od__law_try_write an__law_try_write : Option Addr} {sl__law_try_write : Array (Option Value)} {oc__law_try_write kV__law_try_write dc__law_try_write pm__law_try_write cd__law_try_write ct__law_try_write : Value} {od_Table_content_of an_Table_content_of : Option Addr} {sl_Table_content_of : Array (Option Value)} {oc_Table_content_of kV_Table_content_of dc_Table_content_of pm_Table_content_of cd_Table_content_of ct_Table_content_of : Value} {od__law_content_told an__law_content_told : Option Addr} {sl__law_content_told : Array (Option Value)} {oc__law_content_told kV__law_content_told dc__law_content_told pm__law_content_told cd__law_content_told ct__law_content_told : Value} {od__law_find an__law_find : Option Addr} {sl__law_find : Array (Option Value)} {oc__law_find kV__law_find dc__law_find pm__law_find cd__law_find ct__law_find : Value} {od__law_found an__law_found : Option Addr} {sl__law_found : Array (Option Value)} {oc__law_found kV__law_found dc__law_found pm__law_found cd__law_found ct__law_found : Value} {od_Table_rows an_Table_rows : Option Addr} {sl_Table_rows : Array (Option Value)} {oc_Table_rows kV_Table_rows dc_Table_rows pm_Table_rows cd_Table_rows ct_Table_rows : Value} {od_Table___len__ an_Table___len__ : Option Addr} {sl_Table___len__ : Array (Option Value)} {oc_Table___len__ kV_Table___len__ dc_Table___len__ pm_Table___len__ cd_Table___len__ ct_Table___len__ : Value} {od__law_is_table an__law_is_table : Option Addr} {sl__law_is_table : Array (Option Value)} {oc__law_is_table kV__law_is_table dc__law_is_table pm__law_is_table cd__law_is_table ct__law_is_table : Value} {od__law_new_row an__law_new_row : Option Addr} {sl__law_new_row : Array (Option Value)} {oc__law_new_row kV__law_new_row dc__law_new_row pm__law_new_row cd__law_new_row ct__law_new_row : Value} {od__law_puts an__law_puts : Option Addr} {sl__law_puts : Array (Option Value)} {oc__law_puts kV__law_puts dc__law_puts pm__law_puts cd__law_puts ct__law_puts : Value} {od__law_writes an__law_writes : Option Addr} {sl__law_writes : Array (Option Value)} {oc__law_writes kV__law_writes dc__law_writes pm__law_writes cd__law_writes ct__law_writes : Value} {od_Table___init__ an_Table___init__ : Option Addr} {sl_Table___init__ : Array (Option Value)} {oc_Table___init__ kV_Table___init__ dc_Table___init__ pm_Table___init__ cd_Table___init__ ct_Table___init__ : Value} {od_Table_twin an_Table_twin : Option Addr} {sl_Table_twin : Array (Option Value)} {oc_Table_twin kV_Table_twin dc_Table_twin pm_Table_twin cd_Table_twin ct_Table_twin : Value} {od__law_twins_apart an__law_twins_apart : Option Addr} {sl__law_twins_apart : Array (Option Value)} {oc__law_twins_apart kV__law_twins_apart dc__law_twins_apart pm__law_twins_apart cd__law_twins_apart ct__law_twins_apart : Value} {od_law an_law : Option Addr} {sl_law : Array (Option Value)} {oc_law kV_law dc_law pm_law cd_law ct_law : Value} {f_UnknownName N_UnknownName cc_UnknownName cda_UnknownName : Addr} {nm_UnknownName q_UnknownName : Str} {bs_UnknownName bm_UnknownName : List Value} {sn_UnknownName : List Str} {sub_UnknownName : List Value} {ab_UnknownName : Bool} {col_UnknownName : Option Bool} {dd_UnknownName : Option Addr} {e0_UnknownName e1_UnknownName e2_UnknownName e3_UnknownName e5_UnknownName : Option Value} {oc_UnknownName doc_UnknownName pm_UnknownName ct_UnknownName ccl_UnknownName cl_UnknownName : Value} {od_UnknownName cdd_UnknownName cld_UnknownName : Option Addr} {osl_UnknownName ccs_UnknownName csl_UnknownName : Array (Option Value)} {vs_UnknownName : Array Value} {file_UnknownName : Str} {tf_UnknownName : Tok} {cdD_UnknownName : ClassData} {f_BadRow N_BadRow cc_BadRow cda_BadRow : Addr} {nm_BadRow q_BadRow : Str} {bs_BadRow bm_BadRow : List Value} {sn_BadRow : List Str} {sub_BadRow : List Value} {ab_BadRow : Bool} {col_BadRow : Option Bool} {dd_BadRow : Option Addr} {e0_BadRow e1_BadRow e2_BadRow e3_BadRow e5_BadRow : Option Value} {oc_BadRow doc_BadRow pm_BadRow ct_BadRow ccl_BadRow cl_BadRow : Value} {od_BadRow cdd_BadRow cld_BadRow : Option Addr} {osl_BadRow ccs_BadRow csl_BadRow : Array (Option Value)} {vs_BadRow : Array Value} {file_BadRow : Str} {tf_BadRow : Tok} {cdD_BadRow : ClassData} {f_NoRow N_NoRow cc_NoRow cda_NoRow : Addr} {nm_NoRow q_NoRow : Str} {bs_NoRow bm_NoRow : List Value} {sn_NoRow : List Str} {sub_NoRow : List Value} {ab_NoRow : Bool} {col_NoRow : Option Bool} {dd_NoRow : Option Addr} {e0_NoRow e1_NoRow e2_NoRow e3_NoRow e5_NoRow : Option Value} {oc_NoRow doc_NoRow pm_NoRow ct_NoRow ccl_NoRow cl_NoRow : Value} {od_NoRow cdd_NoRow cld_NoRow : Option Addr} {osl_NoRow ccs_NoRow csl_NoRow : Array (Option Value)} {vs_NoRow : Array Value} {file_NoRow : Str} {tf_NoRow : Tok} {cdD_NoRow : ClassData} {f_Taken N_Taken cc_Taken cda_Taken : Addr} {nm_Taken q_Taken : Str} {bs_Taken bm_Taken : List Value} {sn_Taken : List Str} {sub_Taken : List Value} {ab_Taken : Bool} {col_Taken : Option Bool} {dd_Taken : Option Addr} {e0_Taken e1_Taken e2_Taken e3_Taken e5_Taken : Option Value} {oc_Taken doc_Taken pm_Taken ct_Taken ccl_Taken cl_Taken : Value} {od_Taken cdd_Taken cld_Taken : Option Addr} {osl_Taken ccs_Taken csl_Taken : Array (Option Value)} {vs_Taken : Array Value} {file_Taken : Str} {tf_Taken : Tok} {cdD_Taken : ClassData} {f_UnknownKey N_UnknownKey cc_UnknownKey cda_UnknownKey : Addr} {nm_UnknownKey q_UnknownKey : Str} {bs_UnknownKey bm_UnknownKey : List Value} {sn_UnknownKey : List Str} {sub_UnknownKey : List Value} {ab_UnknownKey : Bool} {col_UnknownKey : Option Bool} {dd_UnknownKey : Option Addr} {e0_UnknownKey e1_UnknownKey e2_UnknownKey e3_UnknownKey e5_UnknownKey : Option Value} {oc_UnknownKey doc_UnknownKey pm_UnknownKey ct_UnknownKey ccl_UnknownKey cl_UnknownKey : Value} {od_UnknownKey cdd_UnknownKey cld_UnknownKey : Option Addr} {osl_UnknownKey ccs_UnknownKey csl_UnknownKey : Array (Option Value)} {vs_UnknownKey : Array Value} {file_UnknownKey : Str} {tf_UnknownKey : Tok} {cdD_UnknownKey : ClassData} {D_UnknownKey : Addr} {f_UnknownField N_UnknownField cc_UnknownField cda_UnknownField : Addr} {nm_UnknownField q_UnknownField : Str} {bs_UnknownField bm_UnknownField : List Value} {sn_UnknownField : List Str} {sub_UnknownField : List Value} {ab_UnknownField : Bool} {col_UnknownField : Option Bool} {dd_UnknownField : Option Addr} {e0_UnknownField e1_UnknownField e2_UnknownField e3_UnknownField e5_UnknownField : Option Value} {oc_UnknownField doc_UnknownField pm_UnknownField ct_UnknownField ccl_UnknownField cl_UnknownField : Value} {od_UnknownField cdd_UnknownField cld_UnknownField : Option Addr} {osl_UnknownField ccs_UnknownField csl_UnknownField : Array (Option Value)} {vs_UnknownField : Array Value} {file_UnknownField : Str} {tf_UnknownField : Tok} {cdD_UnknownField : ClassData} {D_UnknownField : Addr} (X : K.In h) (G : h.Ns mainGlobals mg) (hfa : mg "law" = some (.ref fa))
    (g_Table : PySem.W.nsIn K mainGlobals "Table" = some (some (.ref a_Table)))
    (pg_Table : PySem.W.plainGet K a_Table Str.empty = true)
    (hx_Table : PySem.W.hasDictIn K a_Table = true)
    (po_Table : PySem.W.plainOver K a_Table = true)
    (st_Table : PySem.W.findIn K (.ref a_Table) "__setattr__" = some (some (.builtin "object.__setattr__")))
    (rr_Table : PySem.W.readsIn K a_Table (.type "type") = true)
    (rg_Table : PySem.W.specialIn K (.ref a_Table) "__getattribute__" = some (some (.builtin "type.__getattribute__")))
    (mi_Table : PySem.W.makesIn K a_Table = true)
    (ko_Table : PySem.W.keepIn K (.ref a_Table) = true)
    (sf_Table : PySem.W.selfFirst K a_Table = true)
    (na_Table__first_rows : PySem.W.findIn K (.ref a_Table) "_first_rows" = some none)
    (na_Table__rows : PySem.W.findIn K (.ref a_Table) "_rows" = some none)
    (na_Table_field_names : PySem.W.findIn K (.ref a_Table) "field_names" = some none)
    (na_Table_key_names : PySem.W.findIn K (.ref a_Table) "key_names" = some none)
    (a__law_state : PySem.W.nsIn K mainGlobals "_law_state" = some (some (.ref f__law_state)))
    (l__law_state : K.lookup f__law_state = some ⟨oc__law_state, od__law_state, .func (PySem.W.fnOf "_law_state" "_law_state" (defArgs s__law_state) (defBody s__law_state) (defScope s__law_state) .none kV__law_state dc__law_state pm__law_state an__law_state cd__law_state ct__law_state), sl__law_state⟩)
    (c__law_state : PySem.W.codeIn K cd__law_state "_law_state" = true)
    (k__law_state : PySem.W.keepIn K (.ref f__law_state) = true)
    (a__law_draw : PySem.W.nsIn K mainGlobals "_law_draw" = some (some (.ref f__law_draw)))
    (l__law_draw : K.lookup f__law_draw = some ⟨oc__law_draw, od__law_draw, .func (PySem.W.fnOf "_law_draw" "_law_draw" (defArgs s__law_draw) (defBody s__law_draw) (defScope s__law_draw) .none kV__law_draw dc__law_draw pm__law_draw an__law_draw cd__law_draw ct__law_draw), sl__law_draw⟩)
    (c__law_draw : PySem.W.codeIn K cd__law_draw "_law_draw" = true)
    (k__law_draw : PySem.W.keepIn K (.ref f__law_draw) = true)
    (a__law_pick : PySem.W.nsIn K mainGlobals "_law_pick" = some (some (.ref f__law_pick)))
    (l__law_pick : K.lookup f__law_pick = some ⟨oc__law_pick, od__law_pick, .func (PySem.W.fnOf "_law_pick" "_law_pick" (defArgs s__law_pick) (defBody s__law_pick) (defScope s__law_pick) .none kV__law_pick dc__law_pick pm__law_pick an__law_pick cd__law_pick ct__law_pick), sl__law_pick⟩)
    (c__law_pick : PySem.W.codeIn K cd__law_pick "_law_pick" = true)
    (k__law_pick : PySem.W.keepIn K (.ref f__law_pick) = true)
    (a__law_mixed : PySem.W.nsIn K mainGlobals "_law_mixed" = some (some (.ref f__law_mixed)))
    (l__law_mixed : K.lookup f__law_mixed = some ⟨oc__law_mixed, od__law_mixed, .func (PySem.W.fnOf "_law_mixed" "_law_mixed" (defArgs s__law_mixed) (defBody s__law_mixed) (defScope s__law_mixed) .none kV__law_mixed dc__law_mixed pm__law_mixed an__law_mixed cd__law_mixed ct__law_mixed), sl__law_mixed⟩)
    (c__law_mixed : PySem.W.codeIn K cd__law_mixed "_law_mixed" = true)
    (k__law_mixed : PySem.W.keepIn K (.ref f__law_mixed) = true)
    (a__law_number : PySem.W.nsIn K mainGlobals "_law_number" = some (some (.ref f__law_number)))
    (l__law_number : K.lookup f__law_number = some ⟨oc__law_number, od__law_number, .func (PySem.W.fnOf "_law_number" "_law_number" (defArgs s__law_number) (defBody s__law_number) (defScope s__law_number) .none kV__law_number dc__law_number pm__law_number an__law_number cd__law_number ct__law_number), sl__law_number⟩)
    (c__law_number : PySem.W.codeIn K cd__law_number "_law_number" = true)
    (k__law_number : PySem.W.keepIn K (.ref f__law_number) = true)
    (a__law_constant : PySem.W.nsIn K mainGlobals "_law_constant" = some (some (.ref f__law_constant)))
    (l__law_constant : K.lookup f__law_constant = some ⟨oc__law_constant, od__law_constant, .func (PySem.W.fnOf "_law_constant" "_law_constant" (defArgs s__law_constant) (defBody s__law_constant) (defScope s__law_constant) .none kV__law_constant dc__law_constant pm__law_constant an__law_constant cd__law_constant ct__law_constant), sl__law_constant⟩)
    (c__law_constant : PySem.W.codeIn K cd__law_constant "_law_constant" = true)
    (k__law_constant : PySem.W.keepIn K (.ref f__law_constant) = true)
    (a__law_values : PySem.W.nsIn K mainGlobals "_law_values" = some (some (.ref f__law_values)))
    (l__law_values : K.lookup f__law_values = some ⟨oc__law_values, od__law_values, .func (PySem.W.fnOf "_law_values" "_law_values" (defArgs s__law_values) (defBody s__law_values) (defScope s__law_values) .none kV__law_values dc__law_values pm__law_values an__law_values cd__law_values ct__law_values), sl__law_values⟩)
    (c__law_values : PySem.W.codeIn K cd__law_values "_law_values" = true)
    (k__law_values : PySem.W.keepIn K (.ref f__law_values) = true)
    (a__law_names : PySem.W.nsIn K mainGlobals "_law_names" = some (some (.ref f__law_names)))
    (l__law_names : K.lookup f__law_names = some ⟨oc__law_names, od__law_names, .func (PySem.W.fnOf "_law_names" "_law_names" (defArgs s__law_names) (defBody s__law_names) (defScope s__law_names) .none kV__law_names dc__law_names pm__law_names an__law_names cd__law_names ct__law_names), sl__law_names⟩)
    (c__law_names : PySem.W.codeIn K cd__law_names "_law_names" = true)
    (k__law_names : PySem.W.keepIn K (.ref f__law_names) = true)
    (a__law_is_int : PySem.W.nsIn K mainGlobals "_law_is_int" = some (some (.ref f__law_is_int)))
    (l__law_is_int : K.lookup f__law_is_int = some ⟨oc__law_is_int, od__law_is_int, .func (PySem.W.fnOf "_law_is_int" "_law_is_int" (defArgs s__law_is_int) (defBody s__law_is_int) (defScope s__law_is_int) .none kV__law_is_int dc__law_is_int pm__law_is_int an__law_is_int cd__law_is_int ct__law_is_int), sl__law_is_int⟩)
    (c__law_is_int : PySem.W.codeIn K cd__law_is_int "_law_is_int" = true)
    (k__law_is_int : PySem.W.keepIn K (.ref f__law_is_int) = true)
    (a__law_same : PySem.W.nsIn K mainGlobals "_law_same" = some (some (.ref f__law_same)))
    (l__law_same : K.lookup f__law_same = some ⟨oc__law_same, od__law_same, .func (PySem.W.fnOf "_law_same" "_law_same" (defArgs s__law_same) (defBody s__law_same) (defScope s__law_same) .none kV__law_same dc__law_same pm__law_same an__law_same cd__law_same ct__law_same), sl__law_same⟩)
    (c__law_same : PySem.W.codeIn K cd__law_same "_law_same" = true)
    (k__law_same : PySem.W.keepIn K (.ref f__law_same) = true)
    (fa_Table__check_new : PySem.W.findIn K (.ref a_Table) "_check_new" = some (some (.ref f_Table__check_new)))
    (fn_Table__check_new : PySem.W.isFn K (.ref f_Table__check_new) = true)
    (l_Table__check_new : K.lookup f_Table__check_new = some ⟨oc_Table__check_new, od_Table__check_new, .func (PySem.W.fnOf "_check_new" "Table._check_new" (defArgs s_Table__check_new) (defBody s_Table__check_new) (defScope s_Table__check_new) .none kV_Table__check_new dc_Table__check_new pm_Table__check_new an_Table__check_new cd_Table__check_new ct_Table__check_new), sl_Table__check_new⟩)
    (c_Table__check_new : PySem.W.codeIn K cd_Table__check_new "Table._check_new" = true)
    (k_Table__check_new : PySem.W.keepIn K (.ref f_Table__check_new) = true)
    (fa_Table__add : PySem.W.findIn K (.ref a_Table) "_add" = some (some (.ref f_Table__add)))
    (fn_Table__add : PySem.W.isFn K (.ref f_Table__add) = true)
    (l_Table__add : K.lookup f_Table__add = some ⟨oc_Table__add, od_Table__add, .func (PySem.W.fnOf "_add" "Table._add" (defArgs s_Table__add) (defBody s_Table__add) (defScope s_Table__add) .none kV_Table__add dc_Table__add pm_Table__add an_Table__add cd_Table__add ct_Table__add), sl_Table__add⟩)
    (c_Table__add : PySem.W.codeIn K cd_Table__add "Table._add" = true)
    (k_Table__add : PySem.W.keepIn K (.ref f_Table__add) = true)
    (fa_Table___getitem__ : PySem.W.findIn K (.ref a_Table) "__getitem__" = some (some (.ref f_Table___getitem__)))
    (fn_Table___getitem__ : PySem.W.isFn K (.ref f_Table___getitem__) = true)
    (fi_Table___getitem__ : PySem.W.fnIn K f_Table___getitem__ = true)
    (l_Table___getitem__ : K.lookup f_Table___getitem__ = some ⟨oc_Table___getitem__, od_Table___getitem__, .func (PySem.W.fnOf "__getitem__" "Table.__getitem__" (defArgs s_Table___getitem__) (defBody s_Table___getitem__) (defScope s_Table___getitem__) .none kV_Table___getitem__ dc_Table___getitem__ pm_Table___getitem__ an_Table___getitem__ cd_Table___getitem__ ct_Table___getitem__), sl_Table___getitem__⟩)
    (c_Table___getitem__ : PySem.W.codeIn K cd_Table___getitem__ "Table.__getitem__" = true)
    (k_Table___getitem__ : PySem.W.keepIn K (.ref f_Table___getitem__) = true)
    (fa_Table_put : PySem.W.findIn K (.ref a_Table) "put" = some (some (.ref f_Table_put)))
    (fn_Table_put : PySem.W.isFn K (.ref f_Table_put) = true)
    (l_Table_put : K.lookup f_Table_put = some ⟨oc_Table_put, od_Table_put, .func (PySem.W.fnOf "put" "Table.put" (defArgs s_Table_put) (defBody s_Table_put) (defScope s_Table_put) .none kV_Table_put dc_Table_put pm_Table_put an_Table_put cd_Table_put ct_Table_put), sl_Table_put⟩)
    (c_Table_put : PySem.W.codeIn K cd_Table_put "Table.put" = true)
    (k_Table_put : PySem.W.keepIn K (.ref f_Table_put) = true)
    (fa_Table_enter : PySem.W.findIn K (.ref a_Table) "enter" = some (some (.ref f_Table_enter)))
    (fn_Table_enter : PySem.W.isFn K (.ref f_Table_enter) = true)
    (l_Table_enter : K.lookup f_Table_enter = some ⟨oc_Table_enter, od_Table_enter, .func (PySem.W.fnOf "enter" "Table.enter" (defArgs s_Table_enter) (defBody s_Table_enter) (defScope s_Table_enter) .none kV_Table_enter dc_Table_enter pm_Table_enter an_Table_enter cd_Table_enter ct_Table_enter), sl_Table_enter⟩)
    (c_Table_enter : PySem.W.codeIn K cd_Table_enter "Table.enter" = true)
    (k_Table_enter : PySem.W.keepIn K (.ref f_Table_enter) = true)
    (a__law_try_put : PySem.W.nsIn K mainGlobals "_law_try_put" = some (some (.ref f__law_try_put)))
    (l__law_try_put : K.lookup f__law_try_put = some ⟨oc__law_try_put, od__law_try_put, .func (PySem.W.fnOf "_law_try_put" "_law_try_put" (defArgs s__law_try_put) (defBody s__law_try_put) (defScope s__law_try_put) .none kV__law_try_put dc__law_try_put pm__law_try_put an__law_try_put cd__law_try_put ct__law_try_put), sl__law_try_put⟩)
    (c__law_try_put : PySem.W.codeIn K cd__law_try_put "_law_try_put" = true)
    (k__law_try_put : PySem.W.keepIn K (.ref f__law_try_put) = true)
    (a__law_put_due : PySem.W.nsIn K mainGlobals "_law_put_due" = some (some (.ref f__law_put_due)))
    (l__law_put_due : K.lookup f__law_put_due = some ⟨oc__law_put_due, od__law_put_due, .func (PySem.W.fnOf "_law_put_due" "_law_put_due" (defArgs s__law_put_due) (defBody s__law_put_due) (defScope s__law_put_due) .none kV__law_put_due dc__law_put_due pm__law_put_due an__law_put_due cd__law_put_due ct__law_put_due), sl__law_put_due⟩)
    (c__law_put_due : PySem.W.codeIn K cd__law_put_due "_law_put_due" = true)
    (k__law_put_due : PySem.W.keepIn K (.ref f__law_put_due) = true)
    (a__law_in_order : PySem.W.nsIn K mainGlobals "_law_in_order" = some (some (.ref f__law_in_order)))
    (l__law_in_order : K.lookup f__law_in_order = some ⟨oc__law_in_order, od__law_in_order, .func (PySem.W.fnOf "_law_in_order" "_law_in_order" (defArgs s__law_in_order) (defBody s__law_in_order) (defScope s__law_in_order) .none kV__law_in_order dc__law_in_order pm__law_in_order an__law_in_order cd__law_in_order ct__law_in_order), sl__law_in_order⟩)
    (c__law_in_order : PySem.W.codeIn K cd__law_in_order "_law_in_order" = true)
    (k__law_in_order : PySem.W.keepIn K (.ref f__law_in_order) = true)
    (fa_Table__check_row : PySem.W.findIn K (.ref a_Table) "_check_row" = some (some (.ref f_Table__check_row)))
    (fn_Table__check_row : PySem.W.isFn K (.ref f_Table__check_row) = true)
    (l_Table__check_row : K.lookup f_Table__check_row = some ⟨oc_Table__check_row, od_Table__check_row, .func (PySem.W.fnOf "_check_row" "Table._check_row" (defArgs s_Table__check_row) (defBody s_Table__check_row) (defScope s_Table__check_row) .none kV_Table__check_row dc_Table__check_row pm_Table__check_row an_Table__check_row cd_Table__check_row ct_Table__check_row), sl_Table__check_row⟩)
    (c_Table__check_row : PySem.W.codeIn K cd_Table__check_row "Table._check_row" = true)
    (k_Table__check_row : PySem.W.keepIn K (.ref f_Table__check_row) = true)
    (fa_Table_write : PySem.W.findIn K (.ref a_Table) "write" = some (some (.ref f_Table_write)))
    (fn_Table_write : PySem.W.isFn K (.ref f_Table_write) = true)
    (l_Table_write : K.lookup f_Table_write = some ⟨oc_Table_write, od_Table_write, .func (PySem.W.fnOf "write" "Table.write" (defArgs s_Table_write) (defBody s_Table_write) (defScope s_Table_write) .none kV_Table_write dc_Table_write pm_Table_write an_Table_write cd_Table_write ct_Table_write), sl_Table_write⟩)
    (c_Table_write : PySem.W.codeIn K cd_Table_write "Table.write" = true)
    (k_Table_write : PySem.W.keepIn K (.ref f_Table_write) = true)
    (a__law_try_write : PySem.W.nsIn K mainGlobals "_law_try_write" = some (some (.ref f__law_try_write)))
    (l__law_try_write : K.lookup f__law_try_write = some ⟨oc__law_try_write, od__law_try_write, .func (PySem.W.fnOf "_law_try_write" "_law_try_write" (defArgs s__law_try_write) (defBody s__law_try_write) (defScope s__law_try_write) .none kV__law_try_write dc__law_try_write pm__law_try_write an__law_try_write cd__law_try_write ct__law_try_write), sl__law_try_write⟩)
    (c__law_try_write : PySem.W.codeIn K cd__law_try_write "_law_try_write" = true)
    (k__law_try_write : PySem.W.keepIn K (.ref f__law_try_write) = true)
    (fa_Table_content_of : PySem.W.findIn K (.ref a_Table) "content_of" = some (some (.ref f_Table_content_of)))
    (fn_Table_content_of : PySem.W.isFn K (.ref f_Table_content_of) = true)
    (l_Table_content_of : K.lookup f_Table_content_of = some ⟨oc_Table_content_of, od_Table_content_of, .func (PySem.W.fnOf "content_of" "Table.content_of" (defArgs s_Table_content_of) (defBody s_Table_content_of) (defScope s_Table_content_of) .none kV_Table_content_of dc_Table_content_of pm_Table_content_of an_Table_content_of cd_Table_content_of ct_Table_content_of), sl_Table_content_of⟩)
    (c_Table_content_of : PySem.W.codeIn K cd_Table_content_of "Table.content_of" = true)
    (k_Table_content_of : PySem.W.keepIn K (.ref f_Table_content_of) = true)
    (a__law_content_told : PySem.W.nsIn K mainGlobals "_law_content_told" = some (some (.ref f__law_content_told)))
    (l__law_content_told : K.lookup f__law_content_told = some ⟨oc__law_content_told, od__law_content_told, .func (PySem.W.fnOf "_law_content_told" "_law_content_told" (defArgs s__law_content_told) (defBody s__law_content_told) (defScope s__law_content_told) .none kV__law_content_told dc__law_content_told pm__law_content_told an__law_content_told cd__law_content_told ct__law_content_told), sl__law_content_told⟩)
    (c__law_content_told : PySem.W.codeIn K cd__law_content_told "_law_content_told" = true)
    (k__law_content_told : PySem.W.keepIn K (.ref f__law_content_told) = true)
    (a__law_find : PySem.W.nsIn K mainGlobals "_law_find" = some (some (.ref f__law_find)))
    (l__law_find : K.lookup f__law_find = some ⟨oc__law_find, od__law_find, .func (PySem.W.fnOf "_law_find" "_law_find" (defArgs s__law_find) (defBody s__law_find) (defScope s__law_find) .none kV__law_find dc__law_find pm__law_find an__law_find cd__law_find ct__law_find), sl__law_find⟩)
    (c__law_find : PySem.W.codeIn K cd__law_find "_law_find" = true)
    (k__law_find : PySem.W.keepIn K (.ref f__law_find) = true)
    (a__law_found : PySem.W.nsIn K mainGlobals "_law_found" = some (some (.ref f__law_found)))
    (l__law_found : K.lookup f__law_found = some ⟨oc__law_found, od__law_found, .func (PySem.W.fnOf "_law_found" "_law_found" (defArgs s__law_found) (defBody s__law_found) (defScope s__law_found) .none kV__law_found dc__law_found pm__law_found an__law_found cd__law_found ct__law_found), sl__law_found⟩)
    (c__law_found : PySem.W.codeIn K cd__law_found "_law_found" = true)
    (k__law_found : PySem.W.keepIn K (.ref f__law_found) = true)
    (fa_Table_rows : PySem.W.findIn K (.ref a_Table) "rows" = some (some (.ref f_Table_rows)))
    (fn_Table_rows : PySem.W.isFn K (.ref f_Table_rows) = true)
    (l_Table_rows : K.lookup f_Table_rows = some ⟨oc_Table_rows, od_Table_rows, .func (PySem.W.fnOf "rows" "Table.rows" (defArgs s_Table_rows) (defBody s_Table_rows) (defScope s_Table_rows) .none kV_Table_rows dc_Table_rows pm_Table_rows an_Table_rows cd_Table_rows ct_Table_rows), sl_Table_rows⟩)
    (c_Table_rows : PySem.W.codeIn K cd_Table_rows "Table.rows" = true)
    (k_Table_rows : PySem.W.keepIn K (.ref f_Table_rows) = true)
    (fa_Table___len__ : PySem.W.findIn K (.ref a_Table) "__len__" = some (some (.ref f_Table___len__)))
    (fn_Table___len__ : PySem.W.isFn K (.ref f_Table___len__) = true)
    (l_Table___len__ : K.lookup f_Table___len__ = some ⟨oc_Table___len__, od_Table___len__, .func (PySem.W.fnOf "__len__" "Table.__len__" (defArgs s_Table___len__) (defBody s_Table___len__) (defScope s_Table___len__) .none kV_Table___len__ dc_Table___len__ pm_Table___len__ an_Table___len__ cd_Table___len__ ct_Table___len__), sl_Table___len__⟩)
    (c_Table___len__ : PySem.W.codeIn K cd_Table___len__ "Table.__len__" = true)
    (k_Table___len__ : PySem.W.keepIn K (.ref f_Table___len__) = true)
    (a__law_is_table : PySem.W.nsIn K mainGlobals "_law_is_table" = some (some (.ref f__law_is_table)))
    (l__law_is_table : K.lookup f__law_is_table = some ⟨oc__law_is_table, od__law_is_table, .func (PySem.W.fnOf "_law_is_table" "_law_is_table" (defArgs s__law_is_table) (defBody s__law_is_table) (defScope s__law_is_table) .none kV__law_is_table dc__law_is_table pm__law_is_table an__law_is_table cd__law_is_table ct__law_is_table), sl__law_is_table⟩)
    (c__law_is_table : PySem.W.codeIn K cd__law_is_table "_law_is_table" = true)
    (k__law_is_table : PySem.W.keepIn K (.ref f__law_is_table) = true)
    (a__law_new_row : PySem.W.nsIn K mainGlobals "_law_new_row" = some (some (.ref f__law_new_row)))
    (l__law_new_row : K.lookup f__law_new_row = some ⟨oc__law_new_row, od__law_new_row, .func (PySem.W.fnOf "_law_new_row" "_law_new_row" (defArgs s__law_new_row) (defBody s__law_new_row) (defScope s__law_new_row) .none kV__law_new_row dc__law_new_row pm__law_new_row an__law_new_row cd__law_new_row ct__law_new_row), sl__law_new_row⟩)
    (c__law_new_row : PySem.W.codeIn K cd__law_new_row "_law_new_row" = true)
    (k__law_new_row : PySem.W.keepIn K (.ref f__law_new_row) = true)
    (a__law_puts : PySem.W.nsIn K mainGlobals "_law_puts" = some (some (.ref f__law_puts)))
    (l__law_puts : K.lookup f__law_puts = some ⟨oc__law_puts, od__law_puts, .func (PySem.W.fnOf "_law_puts" "_law_puts" (defArgs s__law_puts) (defBody s__law_puts) (defScope s__law_puts) .none kV__law_puts dc__law_puts pm__law_puts an__law_puts cd__law_puts ct__law_puts), sl__law_puts⟩)
    (c__law_puts : PySem.W.codeIn K cd__law_puts "_law_puts" = true)
    (k__law_puts : PySem.W.keepIn K (.ref f__law_puts) = true)
    (a__law_writes : PySem.W.nsIn K mainGlobals "_law_writes" = some (some (.ref f__law_writes)))
    (l__law_writes : K.lookup f__law_writes = some ⟨oc__law_writes, od__law_writes, .func (PySem.W.fnOf "_law_writes" "_law_writes" (defArgs s__law_writes) (defBody s__law_writes) (defScope s__law_writes) .none kV__law_writes dc__law_writes pm__law_writes an__law_writes cd__law_writes ct__law_writes), sl__law_writes⟩)
    (c__law_writes : PySem.W.codeIn K cd__law_writes "_law_writes" = true)
    (k__law_writes : PySem.W.keepIn K (.ref f__law_writes) = true)
    (fa_Table___init__ : PySem.W.findIn K (.ref a_Table) "__init__" = some (some (.ref f_Table___init__)))
    (fn_Table___init__ : PySem.W.isFn K (.ref f_Table___init__) = true)
    (l_Table___init__ : K.lookup f_Table___init__ = some ⟨oc_Table___init__, od_Table___init__, .func (PySem.W.fnOf "__init__" "Table.__init__" (defArgs s_Table___init__) (defBody s_Table___init__) (defScope s_Table___init__) .none kV_Table___init__ dc_Table___init__ pm_Table___init__ an_Table___init__ cd_Table___init__ ct_Table___init__), sl_Table___init__⟩)
    (c_Table___init__ : PySem.W.codeIn K cd_Table___init__ "Table.__init__" = true)
    (k_Table___init__ : PySem.W.keepIn K (.ref f_Table___init__) = true)
    (fa_Table_twin : PySem.W.findIn K (.ref a_Table) "twin" = some (some (.ref f_Table_twin)))
    (fn_Table_twin : PySem.W.isFn K (.ref f_Table_twin) = true)
    (l_Table_twin : K.lookup f_Table_twin = some ⟨oc_Table_twin, od_Table_twin, .func (PySem.W.fnOf "twin" "Table.twin" (defArgs s_Table_twin) (defBody s_Table_twin) (defScope s_Table_twin) .none kV_Table_twin dc_Table_twin pm_Table_twin an_Table_twin cd_Table_twin ct_Table_twin), sl_Table_twin⟩)
    (c_Table_twin : PySem.W.codeIn K cd_Table_twin "Table.twin" = true)
    (k_Table_twin : PySem.W.keepIn K (.ref f_Table_twin) = true)
    (a__law_twins_apart : PySem.W.nsIn K mainGlobals "_law_twins_apart" = some (some (.ref f__law_twins_apart)))
    (l__law_twins_apart : K.lookup f__law_twins_apart = some ⟨oc__law_twins_apart, od__law_twins_apart, .func (PySem.W.fnOf "_law_twins_apart" "_law_twins_apart" (defArgs s__law_twins_apart) (defBody s__law_twins_apart) (defScope s__law_twins_apart) .none kV__law_twins_apart dc__law_twins_apart pm__law_twins_apart an__law_twins_apart cd__law_twins_apart ct__law_twins_apart), sl__law_twins_apart⟩)
    (c__law_twins_apart : PySem.W.codeIn K cd__law_twins_apart "_law_twins_apart" = true)
    (k__law_twins_apart : PySem.W.keepIn K (.ref f__law_twins_apart) = true)
    (a_law : PySem.W.nsIn K mainGlobals "law" = some (some (.ref f_law)))
    (l_law : K.lookup f_law = some ⟨oc_law, od_law, .func (PySem.W.fnOf "law" "law" (defArgs s_law) (defBody s_law) (defScope s_law) .none kV_law dc_law pm_law an_law cd_law ct_law), sl_law⟩)
    (c_law : PySem.W.codeIn K cd_law "law" = true)
    (k_law : PySem.W.keepIn K (.ref f_law) = true)
    (z_ValueError : PySem.W.nsIn K mainGlobals "ValueError" = some none)
    (z_any : PySem.W.nsIn K mainGlobals "any" = some none)
    (z_bool : PySem.W.nsIn K mainGlobals "bool" = some none)
    (z_dict : PySem.W.nsIn K mainGlobals "dict" = some none)
    (z_int : PySem.W.nsIn K mainGlobals "int" = some none)
    (z_isinstance : PySem.W.nsIn K mainGlobals "isinstance" = some none)
    (z_len : PySem.W.nsIn K mainGlobals "len" = some none)
    (z_list : PySem.W.nsIn K mainGlobals "list" = some none)
    (z_range : PySem.W.nsIn K mainGlobals "range" = some none)
    (z_set : PySem.W.nsIn K mainGlobals "set" = some none)
    (z_str : PySem.W.nsIn K mainGlobals "str" = some none)
    (z_super : PySem.W.nsIn K mainGlobals "super" = some none)
    (z_tuple : PySem.W.nsIn K mainGlobals "tuple" = some none)
    (g_BadRow : PySem.W.nsIn K mainGlobals "BadRow" = some (some (.ref a_BadRow)))
    (g_ElseputError : PySem.W.nsIn K mainGlobals "ElseputError" = some (some (.ref a_ElseputError)))
    (g_NoRow : PySem.W.nsIn K mainGlobals "NoRow" = some (some (.ref a_NoRow)))
    (g_Taken : PySem.W.nsIn K mainGlobals "Taken" = some (some (.ref a_Taken)))
    (g_UnknownField : PySem.W.nsIn K mainGlobals "UnknownField" = some (some (.ref a_UnknownField)))
    (g_UnknownKey : PySem.W.nsIn K mainGlobals "UnknownKey" = some (some (.ref a_UnknownKey)))
    (g_UnknownName : PySem.W.nsIn K mainGlobals "UnknownName" = some (some (.ref a_UnknownName)))
    (st_any : PySem.W.nsIn K PySem.cStatics "thirdparty.any" = some none)
    (htop : (l.prog.main.scope.names.lookup ("super" : Str)).isSome = false)
    (xc_UnknownName : K.lookup a_UnknownName = some (excClassObj nm_UnknownName q_UnknownName a_UnknownName N_UnknownName bs_UnknownName bm_UnknownName true sn_UnknownName sub_UnknownName ab_UnknownName col_UnknownName dd_UnknownName e0_UnknownName e1_UnknownName e2_UnknownName e3_UnknownName e5_UnknownName "ValueError.__new__"))
    (ref_UnknownName : PySem.HandSPX.refsVE bm_UnknownName = true)
    (sa_UnknownName : PySem.W.findIn K (.ref a_UnknownName) "__setattr__" = some (some (.builtin "object.__setattr__")))
    (eb_UnknownName : PySem.W.subIn K (.ref a_UnknownName) (.type "BaseException") = some true)
    (ty_UnknownName : PySem.W.typeIn K (.ref a_UnknownName) = some (.type "type"))
    (kC_UnknownName : PySem.W.keepIn K (.ref a_UnknownName) = true)
    (iC_UnknownName : PySem.W.findIn K (.ref a_UnknownName) "__init__" = some (some (.ref f_UnknownName)))
    (tI_UnknownName : PySem.W.typeIn K (.ref f_UnknownName) = some (.type "function"))
    (sup_UnknownName : PySem.W.ks_superIn K a_UnknownName a_UnknownName "__init__" = some (some (.builtin "ValueError.__init__")))
    (sv_UnknownName : PySem.W.subIn K (.ref a_UnknownName) (.type "ValueError") = some true)
    (mro_UnknownName : PySem.W.mroIn K a_UnknownName (.ref a_UnknownName) = some true)
    (no0_UnknownName : PySem.W.findIn K (.ref a_UnknownName) "name" = some none)
    (ga_UnknownName : PySem.W.findIn K (.ref a_UnknownName) "__getattribute__" = some (some (.builtin "BaseException.__getattribute__")))
    (gg_UnknownName : PySem.W.findIn K (.ref a_UnknownName) "__getattr__" = some none)
    (hd_UnknownName : PySem.W.hasDictIn K a_UnknownName = true)
    (hcl_UnknownName : PySem.W.findIn K (.ref a_UnknownName) "__class__" = some (some (.builtin "object.__class__")))
    (hn_UnknownName : PySem.W.specialIn K (.builtin "object.__class__") "__get__" = some (some (.builtin "getset_descriptor.__get__")))
    (ht_UnknownName : PySem.W.takesIn K (.builtin "object.__class__") = some true)
    (hm_UnknownName : PySem.W.mroIn K a_UnknownName (.type "object") = some true)
    (lf_UnknownName : K.lookup f_UnknownName = some ⟨oc_UnknownName, od_UnknownName, .func (PySem.W.fnX "__init__" "UnknownName.__init__" (defArgs s_UnknownName) (defBody s_UnknownName) (defScope s_UnknownName) [("__class__", cc_UnknownName)] .none .none doc_UnknownName pm_UnknownName none (.ref cda_UnknownName) ct_UnknownName), osl_UnknownName⟩)
    (cd_UnknownName : PySem.W.codeIn K (.ref cda_UnknownName) "UnknownName.__init__" = true)
    (lc_UnknownName : K.lookup cda_UnknownName = some ⟨ccl_UnknownName, cdd_UnknownName, .fields vs_UnknownName, ccs_UnknownName⟩)
    (v2_UnknownName : vs_UnknownName[2]? = some (.str file_UnknownName tf_UnknownName))
    (fe_UnknownName : ((l.prog.main.file : Str) == file_UnknownName) = true)
    (lcc_UnknownName : K.lookup cc_UnknownName = some ⟨cl_UnknownName, cld_UnknownName, .cell (some (.ref a_UnknownName)), csl_UnknownName⟩)
    (hD_UnknownName : PySem.W.clsIn K a_UnknownName = some cdD_UnknownName)
    (xc_BadRow : K.lookup a_BadRow = some (excClassObj nm_BadRow q_BadRow a_BadRow N_BadRow bs_BadRow bm_BadRow true sn_BadRow sub_BadRow ab_BadRow col_BadRow dd_BadRow e0_BadRow e1_BadRow e2_BadRow e3_BadRow e5_BadRow "ValueError.__new__"))
    (ref_BadRow : PySem.HandSPX.refsVE bm_BadRow = true)
    (sa_BadRow : PySem.W.findIn K (.ref a_BadRow) "__setattr__" = some (some (.builtin "object.__setattr__")))
    (eb_BadRow : PySem.W.subIn K (.ref a_BadRow) (.type "BaseException") = some true)
    (ty_BadRow : PySem.W.typeIn K (.ref a_BadRow) = some (.type "type"))
    (kC_BadRow : PySem.W.keepIn K (.ref a_BadRow) = true)
    (iC_BadRow : PySem.W.findIn K (.ref a_BadRow) "__init__" = some (some (.ref f_BadRow)))
    (tI_BadRow : PySem.W.typeIn K (.ref f_BadRow) = some (.type "function"))
    (sup_BadRow : PySem.W.ks_superIn K a_BadRow a_BadRow "__init__" = some (some (.builtin "ValueError.__init__")))
    (sv_BadRow : PySem.W.subIn K (.ref a_BadRow) (.type "ValueError") = some true)
    (mro_BadRow : PySem.W.mroIn K a_BadRow (.ref a_BadRow) = some true)
    (ga_BadRow : PySem.W.findIn K (.ref a_BadRow) "__getattribute__" = some (some (.builtin "BaseException.__getattribute__")))
    (gg_BadRow : PySem.W.findIn K (.ref a_BadRow) "__getattr__" = some none)
    (hd_BadRow : PySem.W.hasDictIn K a_BadRow = true)
    (hcl_BadRow : PySem.W.findIn K (.ref a_BadRow) "__class__" = some (some (.builtin "object.__class__")))
    (hn_BadRow : PySem.W.specialIn K (.builtin "object.__class__") "__get__" = some (some (.builtin "getset_descriptor.__get__")))
    (ht_BadRow : PySem.W.takesIn K (.builtin "object.__class__") = some true)
    (hm_BadRow : PySem.W.mroIn K a_BadRow (.type "object") = some true)
    (lf_BadRow : K.lookup f_BadRow = some ⟨oc_BadRow, od_BadRow, .func (PySem.W.fnX "__init__" "BadRow.__init__" (defArgs s_BadRow) (defBody s_BadRow) (defScope s_BadRow) [("__class__", cc_BadRow)] .none .none doc_BadRow pm_BadRow none (.ref cda_BadRow) ct_BadRow), osl_BadRow⟩)
    (cd_BadRow : PySem.W.codeIn K (.ref cda_BadRow) "BadRow.__init__" = true)
    (lc_BadRow : K.lookup cda_BadRow = some ⟨ccl_BadRow, cdd_BadRow, .fields vs_BadRow, ccs_BadRow⟩)
    (v2_BadRow : vs_BadRow[2]? = some (.str file_BadRow tf_BadRow))
    (fe_BadRow : ((l.prog.main.file : Str) == file_BadRow) = true)
    (lcc_BadRow : K.lookup cc_BadRow = some ⟨cl_BadRow, cld_BadRow, .cell (some (.ref a_BadRow)), csl_BadRow⟩)
    (hD_BadRow : PySem.W.clsIn K a_BadRow = some cdD_BadRow)
    (xc_NoRow : K.lookup a_NoRow = some (excClassObj nm_NoRow q_NoRow a_NoRow N_NoRow bs_NoRow bm_NoRow true sn_NoRow sub_NoRow ab_NoRow col_NoRow dd_NoRow e0_NoRow e1_NoRow e2_NoRow e3_NoRow e5_NoRow "ValueError.__new__"))
    (ref_NoRow : PySem.HandSPX.refsVE bm_NoRow = true)
    (sa_NoRow : PySem.W.findIn K (.ref a_NoRow) "__setattr__" = some (some (.builtin "object.__setattr__")))
    (eb_NoRow : PySem.W.subIn K (.ref a_NoRow) (.type "BaseException") = some true)
    (ty_NoRow : PySem.W.typeIn K (.ref a_NoRow) = some (.type "type"))
    (kC_NoRow : PySem.W.keepIn K (.ref a_NoRow) = true)
    (iC_NoRow : PySem.W.findIn K (.ref a_NoRow) "__init__" = some (some (.ref f_NoRow)))
    (tI_NoRow : PySem.W.typeIn K (.ref f_NoRow) = some (.type "function"))
    (sup_NoRow : PySem.W.ks_superIn K a_NoRow a_NoRow "__init__" = some (some (.builtin "ValueError.__init__")))
    (sv_NoRow : PySem.W.subIn K (.ref a_NoRow) (.type "ValueError") = some true)
    (mro_NoRow : PySem.W.mroIn K a_NoRow (.ref a_NoRow) = some true)
    (no0_NoRow : PySem.W.findIn K (.ref a_NoRow) "row" = some none)
    (ga_NoRow : PySem.W.findIn K (.ref a_NoRow) "__getattribute__" = some (some (.builtin "BaseException.__getattribute__")))
    (gg_NoRow : PySem.W.findIn K (.ref a_NoRow) "__getattr__" = some none)
    (hd_NoRow : PySem.W.hasDictIn K a_NoRow = true)
    (hcl_NoRow : PySem.W.findIn K (.ref a_NoRow) "__class__" = some (some (.builtin "object.__class__")))
    (hn_NoRow : PySem.W.specialIn K (.builtin "object.__class__") "__get__" = some (some (.builtin "getset_descriptor.__get__")))
    (ht_NoRow : PySem.W.takesIn K (.builtin "object.__class__") = some true)
    (hm_NoRow : PySem.W.mroIn K a_NoRow (.type "object") = some true)
    (lf_NoRow : K.lookup f_NoRow = some ⟨oc_NoRow, od_NoRow, .func (PySem.W.fnX "__init__" "NoRow.__init__" (defArgs s_NoRow) (defBody s_NoRow) (defScope s_NoRow) [("__class__", cc_NoRow)] .none .none doc_NoRow pm_NoRow none (.ref cda_NoRow) ct_NoRow), osl_NoRow⟩)
    (cd_NoRow : PySem.W.codeIn K (.ref cda_NoRow) "NoRow.__init__" = true)
    (lc_NoRow : K.lookup cda_NoRow = some ⟨ccl_NoRow, cdd_NoRow, .fields vs_NoRow, ccs_NoRow⟩)
    (v2_NoRow : vs_NoRow[2]? = some (.str file_NoRow tf_NoRow))
    (fe_NoRow : ((l.prog.main.file : Str) == file_NoRow) = true)
    (lcc_NoRow : K.lookup cc_NoRow = some ⟨cl_NoRow, cld_NoRow, .cell (some (.ref a_NoRow)), csl_NoRow⟩)
    (hD_NoRow : PySem.W.clsIn K a_NoRow = some cdD_NoRow)
    (xc_Taken : K.lookup a_Taken = some (excClassObj nm_Taken q_Taken a_Taken N_Taken bs_Taken bm_Taken true sn_Taken sub_Taken ab_Taken col_Taken dd_Taken e0_Taken e1_Taken e2_Taken e3_Taken e5_Taken "ValueError.__new__"))
    (ref_Taken : PySem.HandSPX.refsVE bm_Taken = true)
    (sa_Taken : PySem.W.findIn K (.ref a_Taken) "__setattr__" = some (some (.builtin "object.__setattr__")))
    (eb_Taken : PySem.W.subIn K (.ref a_Taken) (.type "BaseException") = some true)
    (ty_Taken : PySem.W.typeIn K (.ref a_Taken) = some (.type "type"))
    (kC_Taken : PySem.W.keepIn K (.ref a_Taken) = true)
    (iC_Taken : PySem.W.findIn K (.ref a_Taken) "__init__" = some (some (.ref f_Taken)))
    (tI_Taken : PySem.W.typeIn K (.ref f_Taken) = some (.type "function"))
    (sup_Taken : PySem.W.ks_superIn K a_Taken a_Taken "__init__" = some (some (.builtin "ValueError.__init__")))
    (sv_Taken : PySem.W.subIn K (.ref a_Taken) (.type "ValueError") = some true)
    (mro_Taken : PySem.W.mroIn K a_Taken (.ref a_Taken) = some true)
    (no0_Taken : PySem.W.findIn K (.ref a_Taken) "key" = some none)
    (no1_Taken : PySem.W.findIn K (.ref a_Taken) "row" = some none)
    (ga_Taken : PySem.W.findIn K (.ref a_Taken) "__getattribute__" = some (some (.builtin "BaseException.__getattribute__")))
    (gg_Taken : PySem.W.findIn K (.ref a_Taken) "__getattr__" = some none)
    (hd_Taken : PySem.W.hasDictIn K a_Taken = true)
    (hcl_Taken : PySem.W.findIn K (.ref a_Taken) "__class__" = some (some (.builtin "object.__class__")))
    (hn_Taken : PySem.W.specialIn K (.builtin "object.__class__") "__get__" = some (some (.builtin "getset_descriptor.__get__")))
    (ht_Taken : PySem.W.takesIn K (.builtin "object.__class__") = some true)
    (hm_Taken : PySem.W.mroIn K a_Taken (.type "object") = some true)
    (lf_Taken : K.lookup f_Taken = some ⟨oc_Taken, od_Taken, .func (PySem.W.fnX "__init__" "Taken.__init__" (defArgs s_Taken) (defBody s_Taken) (defScope s_Taken) [("__class__", cc_Taken)] .none .none doc_Taken pm_Taken none (.ref cda_Taken) ct_Taken), osl_Taken⟩)
    (cd_Taken : PySem.W.codeIn K (.ref cda_Taken) "Taken.__init__" = true)
    (lc_Taken : K.lookup cda_Taken = some ⟨ccl_Taken, cdd_Taken, .fields vs_Taken, ccs_Taken⟩)
    (v2_Taken : vs_Taken[2]? = some (.str file_Taken tf_Taken))
    (fe_Taken : ((l.prog.main.file : Str) == file_Taken) = true)
    (lcc_Taken : K.lookup cc_Taken = some ⟨cl_Taken, cld_Taken, .cell (some (.ref a_Taken)), csl_Taken⟩)
    (hD_Taken : PySem.W.clsIn K a_Taken = some cdD_Taken)
    (xc_UnknownKey : K.lookup a_UnknownKey = some (excClassObj nm_UnknownKey q_UnknownKey a_UnknownKey N_UnknownKey bs_UnknownKey bm_UnknownKey true sn_UnknownKey sub_UnknownKey ab_UnknownKey col_UnknownKey dd_UnknownKey e0_UnknownKey e1_UnknownKey e2_UnknownKey e3_UnknownKey e5_UnknownKey "ValueError.__new__"))
    (ref_UnknownKey : PySem.HandSPX.refsVE bm_UnknownKey = true)
    (sa_UnknownKey : PySem.W.findIn K (.ref a_UnknownKey) "__setattr__" = some (some (.builtin "object.__setattr__")))
    (eb_UnknownKey : PySem.W.subIn K (.ref a_UnknownKey) (.type "BaseException") = some true)
    (ty_UnknownKey : PySem.W.typeIn K (.ref a_UnknownKey) = some (.type "type"))
    (kC_UnknownKey : PySem.W.keepIn K (.ref a_UnknownKey) = true)
    (iC_UnknownKey : PySem.W.findIn K (.ref a_UnknownKey) "__init__" = some (some (.ref f_UnknownKey)))
    (tI_UnknownKey : PySem.W.typeIn K (.ref f_UnknownKey) = some (.type "function"))
    (sv_UnknownKey : PySem.W.subIn K (.ref a_UnknownKey) (.type "ValueError") = some true)
    (no0_UnknownKey : PySem.W.findIn K (.ref a_UnknownKey) "name" = some none)
    (ga_UnknownKey : PySem.W.findIn K (.ref a_UnknownKey) "__getattribute__" = some (some (.builtin "BaseException.__getattribute__")))
    (gg_UnknownKey : PySem.W.findIn K (.ref a_UnknownKey) "__getattr__" = some none)
    (hd_UnknownKey : PySem.W.hasDictIn K a_UnknownKey = true)
    (hcl_UnknownKey : PySem.W.findIn K (.ref a_UnknownKey) "__class__" = some (some (.builtin "object.__class__")))
    (hn_UnknownKey : PySem.W.specialIn K (.builtin "object.__class__") "__get__" = some (some (.builtin "getset_descriptor.__get__")))
    (ht_UnknownKey : PySem.W.takesIn K (.builtin "object.__class__") = some true)
    (hm_UnknownKey : PySem.W.mroIn K a_UnknownKey (.type "object") = some true)
    (lf_UnknownKey : K.lookup f_UnknownKey = some ⟨oc_UnknownKey, od_UnknownKey, .func (PySem.W.fnX "__init__" "UnknownName.__init__" (defArgs s_UnknownKey) (defBody s_UnknownKey) (defScope s_UnknownKey) [("__class__", cc_UnknownKey)] .none .none doc_UnknownKey pm_UnknownKey none (.ref cda_UnknownKey) ct_UnknownKey), osl_UnknownKey⟩)
    (cd_UnknownKey : PySem.W.codeIn K (.ref cda_UnknownKey) "UnknownName.__init__" = true)
    (lc_UnknownKey : K.lookup cda_UnknownKey = some ⟨ccl_UnknownKey, cdd_UnknownKey, .fields vs_UnknownKey, ccs_UnknownKey⟩)
    (v2_UnknownKey : vs_UnknownKey[2]? = some (.str file_UnknownKey tf_UnknownKey))
    (fe_UnknownKey : ((l.prog.main.file : Str) == file_UnknownKey) = true)
    (lcc_UnknownKey : K.lookup cc_UnknownKey = some ⟨cl_UnknownKey, cld_UnknownKey, .cell (some (.ref D_UnknownKey)), csl_UnknownKey⟩)
    (sup_UnknownKey : PySem.W.ks_superIn K a_UnknownKey D_UnknownKey "__init__" = some (some (.builtin "ValueError.__init__")))
    (mro_UnknownKey : PySem.W.mroIn K a_UnknownKey (.ref D_UnknownKey) = some true)
    (hD_UnknownKey : PySem.W.clsIn K D_UnknownKey = some cdD_UnknownKey)
    (xc_UnknownField : K.lookup a_UnknownField = some (excClassObj nm_UnknownField q_UnknownField a_UnknownField N_UnknownField bs_UnknownField bm_UnknownField true sn_UnknownField sub_UnknownField ab_UnknownField col_UnknownField dd_UnknownField e0_UnknownField e1_UnknownField e2_UnknownField e3_UnknownField e5_UnknownField "ValueError.__new__"))
    (ref_UnknownField : PySem.HandSPX.refsVE bm_UnknownField = true)
    (sa_UnknownField : PySem.W.findIn K (.ref a_UnknownField) "__setattr__" = some (some (.builtin "object.__setattr__")))
    (eb_UnknownField : PySem.W.subIn K (.ref a_UnknownField) (.type "BaseException") = some true)
    (ty_UnknownField : PySem.W.typeIn K (.ref a_UnknownField) = some (.type "type"))
    (kC_UnknownField : PySem.W.keepIn K (.ref a_UnknownField) = true)
    (iC_UnknownField : PySem.W.findIn K (.ref a_UnknownField) "__init__" = some (some (.ref f_UnknownField)))
    (tI_UnknownField : PySem.W.typeIn K (.ref f_UnknownField) = some (.type "function"))
    (sv_UnknownField : PySem.W.subIn K (.ref a_UnknownField) (.type "ValueError") = some true)
    (no0_UnknownField : PySem.W.findIn K (.ref a_UnknownField) "name" = some none)
    (ga_UnknownField : PySem.W.findIn K (.ref a_UnknownField) "__getattribute__" = some (some (.builtin "BaseException.__getattribute__")))
    (gg_UnknownField : PySem.W.findIn K (.ref a_UnknownField) "__getattr__" = some none)
    (hd_UnknownField : PySem.W.hasDictIn K a_UnknownField = true)
    (hcl_UnknownField : PySem.W.findIn K (.ref a_UnknownField) "__class__" = some (some (.builtin "object.__class__")))
    (hn_UnknownField : PySem.W.specialIn K (.builtin "object.__class__") "__get__" = some (some (.builtin "getset_descriptor.__get__")))
    (ht_UnknownField : PySem.W.takesIn K (.builtin "object.__class__") = some true)
    (hm_UnknownField : PySem.W.mroIn K a_UnknownField (.type "object") = some true)
    (lf_UnknownField : K.lookup f_UnknownField = some ⟨oc_UnknownField, od_UnknownField, .func (PySem.W.fnX "__init__" "UnknownName.__init__" (defArgs s_UnknownField) (defBody s_UnknownField) (defScope s_UnknownField) [("__class__", cc_UnknownField)] .none .none doc_UnknownField pm_UnknownField none (.ref cda_UnknownField) ct_UnknownField), osl_UnknownField⟩)
    (cd_UnknownField : PySem.W.codeIn K (.ref cda_UnknownField) "UnknownName.__init__" = true)
    (lc_UnknownField : K.lookup cda_UnknownField = some ⟨ccl_UnknownField, cdd_UnknownField, .fields vs_UnknownField, ccs_UnknownField⟩)
    (v2_UnknownField : vs_UnknownField[2]? = some (.str file_UnknownField tf_UnknownField))
    (fe_UnknownField : ((l.prog.main.file : Str) == file_UnknownField) = true)
    (lcc_UnknownField : K.lookup cc_UnknownField = some ⟨cl_UnknownField, cld_UnknownField, .cell (some (.ref D_UnknownField)), csl_UnknownField⟩)
    (sup_UnknownField : PySem.W.ks_superIn K a_UnknownField D_UnknownField "__init__" = some (some (.builtin "ValueError.__init__")))
    (mro_UnknownField : PySem.W.mroIn K a_UnknownField (.ref D_UnknownField) = some true)
    (hD_UnknownField : PySem.W.clsIn K D_UnknownField = some cdD_UnknownField)
    (mb_ElseputError : PySem.W.subIn K (.ref a_ElseputError) (.type "BaseException") = some true)
    (md_ElseputError : PySem.W.hasDictIn K a_ElseputError = true)
    (mt_ElseputError : PySem.W.typeIn K (.ref a_ElseputError) = some (.type "type"))
    (ms_BadRow_ElseputError : PySem.W.subIn K (.ref a_BadRow) (.ref a_ElseputError) = some true)
    (ms_NoRow_ElseputError : PySem.W.subIn K (.ref a_NoRow) (.ref a_ElseputError) = some true)
    (ms_Taken_ElseputError : PySem.W.subIn K (.ref a_Taken) (.ref a_ElseputError) = some true)
    (ms_UnknownField_ElseputError : PySem.W.subIn K (.ref a_UnknownField) (.ref a_ElseputError) = some true)
    (ms_UnknownKey_ElseputError : PySem.W.subIn K (.ref a_UnknownKey) (.ref a_ElseputError) = some true)
    (kit_BadRow_BadRow : PySem.W.kitOne K (.ref a_BadRow) (.ref a_BadRow) = some true)
    (kit_BadRow_Taken : PySem.W.kitOne K (.ref a_BadRow) (.ref a_Taken) = some false)
    (kit_BadRow_ValueError : PySem.W.kitOne K (.ref a_BadRow) (.type "ValueError") = some true)
    (kit_BadRow_NoRow : PySem.W.kitOne K (.ref a_BadRow) (.ref a_NoRow) = some false)
    (kit_BadRow_UnknownField : PySem.W.kitOne K (.ref a_BadRow) (.ref a_UnknownField) = some false)
    (kit_BadRow_UnknownKey : PySem.W.kitOne K (.ref a_BadRow) (.ref a_UnknownKey) = some false)
    (kit_BadRow_UnknownName : PySem.W.kitOne K (.ref a_BadRow) (.ref a_UnknownName) = some false)
    (kit_NoRow_BadRow : PySem.W.kitOne K (.ref a_NoRow) (.ref a_BadRow) = some false)
    (kit_NoRow_Taken : PySem.W.kitOne K (.ref a_NoRow) (.ref a_Taken) = some false)
    (kit_NoRow_ValueError : PySem.W.kitOne K (.ref a_NoRow) (.type "ValueError") = some true)
    (kit_NoRow_NoRow : PySem.W.kitOne K (.ref a_NoRow) (.ref a_NoRow) = some true)
    (kit_NoRow_UnknownField : PySem.W.kitOne K (.ref a_NoRow) (.ref a_UnknownField) = some false)
    (kit_NoRow_UnknownKey : PySem.W.kitOne K (.ref a_NoRow) (.ref a_UnknownKey) = some false)
    (kit_NoRow_UnknownName : PySem.W.kitOne K (.ref a_NoRow) (.ref a_UnknownName) = some false)
    (kit_Taken_BadRow : PySem.W.kitOne K (.ref a_Taken) (.ref a_BadRow) = some false)
    (kit_Taken_Taken : PySem.W.kitOne K (.ref a_Taken) (.ref a_Taken) = some true)
    (kit_Taken_ValueError : PySem.W.kitOne K (.ref a_Taken) (.type "ValueError") = some true)
    (kit_Taken_NoRow : PySem.W.kitOne K (.ref a_Taken) (.ref a_NoRow) = some false)
    (kit_Taken_UnknownField : PySem.W.kitOne K (.ref a_Taken) (.ref a_UnknownField) = some false)
    (kit_Taken_UnknownKey : PySem.W.kitOne K (.ref a_Taken) (.ref a_UnknownKey) = some false)
    (kit_Taken_UnknownName : PySem.W.kitOne K (.ref a_Taken) (.ref a_UnknownName) = some false)
    (kit_UnknownField_BadRow : PySem.W.kitOne K (.ref a_UnknownField) (.ref a_BadRow) = some false)
    (kit_UnknownField_Taken : PySem.W.kitOne K (.ref a_UnknownField) (.ref a_Taken) = some false)
    (kit_UnknownField_ValueError : PySem.W.kitOne K (.ref a_UnknownField) (.type "ValueError") = some true)
    (kit_UnknownField_NoRow : PySem.W.kitOne K (.ref a_UnknownField) (.ref a_NoRow) = some false)
    (kit_UnknownField_UnknownField : PySem.W.kitOne K (.ref a_UnknownField) (.ref a_UnknownField) = some true)
    (kit_UnknownField_UnknownKey : PySem.W.kitOne K (.ref a_UnknownField) (.ref a_UnknownKey) = some false)
    (kit_UnknownField_UnknownName : PySem.W.kitOne K (.ref a_UnknownField) (.ref a_UnknownName) = some true)
    (kit_UnknownKey_BadRow : PySem.W.kitOne K (.ref a_UnknownKey) (.ref a_BadRow) = some false)
    (kit_UnknownKey_Taken : PySem.W.kitOne K (.ref a_UnknownKey) (.ref a_Taken) = some false)
    (kit_UnknownKey_ValueError : PySem.W.kitOne K (.ref a_UnknownKey) (.type "ValueError") = some true)
    (kit_UnknownKey_NoRow : PySem.W.kitOne K (.ref a_UnknownKey) (.ref a_NoRow) = some false)
    (kit_UnknownKey_UnknownField : PySem.W.kitOne K (.ref a_UnknownKey) (.ref a_UnknownField) = some false)
    (kit_UnknownKey_UnknownKey : PySem.W.kitOne K (.ref a_UnknownKey) (.ref a_UnknownKey) = some true)
    (kit_UnknownKey_UnknownName : PySem.W.kitOne K (.ref a_UnknownKey) (.ref a_UnknownName) = some true)
    : ∃ fd : FuncData, (∀ (s : Shared) (v : Value), BindsTo s fd ⟨[v], []⟩ [("_law_script", v)]) ∧ ∀ base : Heap, K.In base → base.Ns mainGlobals mg → FnOk l.prog w K mg base CX0 80 fa fd ["_law_script"] (spLaw K) := by
  have e := hfa.symm.trans (PySem.W.mg_of X G a_law)
  cases e
  have XK_UnknownName : ExK K a_UnknownName f_UnknownName ["name"] := exk_mk xc_UnknownName ref_UnknownName sa_UnknownName eb_UnknownName ty_UnknownName kC_UnknownName sup_UnknownName sv_UnknownName mro_UnknownName iC_UnknownName tI_UnknownName (fun f hf => by simp only [List.mem_cons, List.not_mem_nil, or_false] at hf; subst hf; exact no0_UnknownName) ga_UnknownName gg_UnknownName hd_UnknownName hcl_UnknownName hn_UnknownName ht_UnknownName hm_UnknownName
  have XK_BadRow : ExK K a_BadRow f_BadRow [] := exk_mk xc_BadRow ref_BadRow sa_BadRow eb_BadRow ty_BadRow kC_BadRow sup_BadRow sv_BadRow mro_BadRow iC_BadRow tI_BadRow (fun f hf => nomatch hf) ga_BadRow gg_BadRow hd_BadRow hcl_BadRow hn_BadRow ht_BadRow hm_BadRow
  have XK_NoRow : ExK K a_NoRow f_NoRow ["row"] := exk_mk xc_NoRow ref_NoRow sa_NoRow eb_NoRow ty_NoRow kC_NoRow sup_NoRow sv_NoRow mro_NoRow iC_NoRow tI_NoRow (fun f hf => by simp only [List.mem_cons, List.not_mem_nil, or_false] at hf; subst hf; exact no0_NoRow) ga_NoRow gg_NoRow hd_NoRow hcl_NoRow hn_NoRow ht_NoRow hm_NoRow
  have XK_Taken : ExK K a_Taken f_Taken ["key", "row"] := exk_mk xc_Taken ref_Taken sa_Taken eb_Taken ty_Taken kC_Taken sup_Taken sv_Taken mro_Taken iC_Taken tI_Taken (fun f hf => by simp only [List.mem_cons, List.not_mem_nil, or_false] at hf; rcases hf with rfl | rfl; exact no0_Taken; exact no1_Taken) ga_Taken gg_Taken hd_Taken hcl_Taken hn_Taken ht_Taken hm_Taken
  have XK_UnknownKey : ExI K a_UnknownKey D_UnknownKey f_UnknownKey ["name"] := exi_mk xc_UnknownKey ref_UnknownKey sa_UnknownKey eb_UnknownKey ty_UnknownKey kC_UnknownKey sup_UnknownKey sv_UnknownKey mro_UnknownKey iC_UnknownKey tI_UnknownKey (fun f hf => by simp only [List.mem_cons, List.not_mem_nil, or_false] at hf; subst hf; exact no0_UnknownKey) ga_UnknownKey gg_UnknownKey hd_UnknownKey hcl_UnknownKey hn_UnknownKey ht_UnknownKey hm_UnknownKey
  have XK_UnknownField : ExI K a_UnknownField D_UnknownField f_UnknownField ["name"] := exi_mk xc_UnknownField ref_UnknownField sa_UnknownField eb_UnknownField ty_UnknownField kC_UnknownField sup_UnknownField sv_UnknownField mro_UnknownField iC_UnknownField tI_UnknownField (fun f hf => by simp only [List.mem_cons, List.not_mem_nil, or_false] at hf; subst hf; exact no0_UnknownField) ga_UnknownField gg_UnknownField hd_UnknownField hcl_UnknownField hn_UnknownField ht_UnknownField hm_UnknownField
  have T : Gs K mg a_BadRow a_ElseputError a_NoRow a_Table a_Taken a_UnknownField a_UnknownKey a_UnknownName := { z_ValueError := PySem.W.mg_none_of X G z_ValueError, z_any := PySem.W.mg_none_of X G z_any, z_bool := PySem.W.mg_none_of X G z_bool, z_dict := PySem.W.mg_none_of X G z_dict, z_int := PySem.W.mg_none_of X G z_int, z_isinstance := PySem.W.mg_none_of X G z_isinstance, z_len := PySem.W.mg_none_of X G z_len, z_list := PySem.W.mg_none_of X G z_list, z_range := PySem.W.mg_none_of X G z_range, z_set := PySem.W.mg_none_of X G z_set, z_str := PySem.W.mg_none_of X G z_str, z_super := PySem.W.mg_none_of X G z_super, z_tuple := PySem.W.mg_none_of X G z_tuple, g_BadRow := PySem.W.mg_of X G g_BadRow, g_ElseputError := PySem.W.mg_of X G g_ElseputError, g_NoRow := PySem.W.mg_of X G g_NoRow, g_Table := PySem.W.mg_of X G g_Table, g_Taken := PySem.W.mg_of X G g_Taken, g_UnknownField := PySem.W.mg_of X G g_UnknownField, g_UnknownKey := PySem.W.mg_of X G g_UnknownKey, g_UnknownName := PySem.W.mg_of X G g_UnknownName, n_ElseputError := g_ElseputError, n_UnknownName := g_UnknownName, n_UnknownKey := g_UnknownKey, n_UnknownField := g_UnknownField, n_BadRow := g_BadRow, n_NoRow := g_NoRow, n_Taken := g_Taken, n_Table := g_Table, x_UnknownName := ⟨XK_UnknownName.no, XK_UnknownName.xf, XK_UnknownName.is⟩, x_BadRow := ⟨XK_BadRow.no, XK_BadRow.xf, XK_BadRow.is⟩, x_NoRow := ⟨XK_NoRow.no, XK_NoRow.xf, XK_NoRow.is⟩, x_Taken := ⟨XK_Taken.no, XK_Taken.xf, XK_Taken.is⟩, x_UnknownKey := ⟨XK_UnknownKey.no, XK_UnknownKey.xf, XK_UnknownKey.is⟩, x_UnknownField := ⟨XK_UnknownField.no, XK_UnknownField.xf, XK_UnknownField.is⟩, cl_Table := ⟨pg_Table, hx_Table, po_Table, st_Table⟩, rd_Table := ⟨rr_Table, rg_Table⟩, na_Table__first_rows := na_Table__first_rows, na_Table__rows := na_Table__rows, na_Table_field_names := na_Table_field_names, na_Table_key_names := na_Table_key_names, m_BadRow_ElseputError := PySem.W.exm_ref mb_ElseputError md_ElseputError mt_ElseputError ms_BadRow_ElseputError, m_NoRow_ElseputError := PySem.W.exm_ref mb_ElseputError md_ElseputError mt_ElseputError ms_NoRow_ElseputError, m_Taken_ElseputError := PySem.W.exm_ref mb_ElseputError md_ElseputError mt_ElseputError ms_Taken_ElseputError, m_UnknownField_ElseputError := PySem.W.exm_ref mb_ElseputError md_ElseputError mt_ElseputError ms_UnknownField_ElseputError, m_UnknownKey_ElseputError := PySem.W.exm_ref mb_ElseputError md_ElseputError mt_ElseputError ms_UnknownKey_ElseputError, k_BadRow_BadRow := kit_BadRow_BadRow, k_BadRow_Taken := kit_BadRow_Taken, k_BadRow_ValueError := kit_BadRow_ValueError, k_BadRow_NoRow := kit_BadRow_NoRow, k_BadRow_UnknownField := kit_BadRow_UnknownField, k_BadRow_UnknownKey := kit_BadRow_UnknownKey, k_BadRow_UnknownName := kit_BadRow_UnknownName, k_NoRow_BadRow := kit_NoRow_BadRow, k_NoRow_Taken := kit_NoRow_Taken, k_NoRow_ValueError := kit_NoRow_ValueError, k_NoRow_NoRow := kit_NoRow_NoRow, k_NoRow_UnknownField := kit_NoRow_UnknownField, k_NoRow_UnknownKey := kit_NoRow_UnknownKey, k_NoRow_UnknownName := kit_NoRow_UnknownName, k_Taken_BadRow := kit_Taken_BadRow, k_Taken_Taken := kit_Taken_Taken, k_Taken_ValueError := kit_Taken_ValueError, k_Taken_NoRow := kit_Taken_NoRow, k_Taken_UnknownField := kit_Taken_UnknownField, k_Taken_UnknownKey := kit_Taken_UnknownKey, k_Taken_UnknownName := kit_Taken_UnknownName, k_UnknownField_BadRow := kit_UnknownField_BadRow, k_UnknownField_Taken := kit_UnknownField_Taken, k_UnknownField_ValueError := kit_UnknownField_ValueError, k_UnknownField_NoRow := kit_UnknownField_NoRow, k_UnknownField_UnknownField := kit_UnknownField_UnknownField, k_UnknownField_UnknownKey := kit_UnknownField_UnknownKey, k_UnknownField_UnknownName := kit_UnknownField_UnknownName, k_UnknownKey_BadRow := kit_UnknownKey_BadRow, k_UnknownKey_Taken := kit_UnknownKey_Taken, k_UnknownKey_ValueError := kit_UnknownKey_ValueError, k_UnknownKey_NoRow := kit_UnknownKey_NoRow, k_UnknownKey_UnknownField := kit_UnknownKey_UnknownField, k_UnknownKey_UnknownKey := kit_UnknownKey_UnknownKey, k_UnknownKey_UnknownName := kit_UnknownKey_UnknownName }
  have F__law_state := fun_mk (st := s__law_state) l__law_state c__law_state k__law_state
  have b__law_state := F__law_state.binds (ps := ["_law_script"]) fun _ _ _ _ _ _ us hl => match us, hl with | [_], _ => rfl
  have F__law_draw := fun_mk (st := s__law_draw) l__law_draw c__law_draw k__law_draw
  have b__law_draw := F__law_draw.binds (ps := ["_law_state_here", "_law_many"]) fun _ _ _ _ _ _ us hl => match us, hl with | [_, _], _ => rfl
  have F__law_pick := fun_mk (st := s__law_pick) l__law_pick c__law_pick k__law_pick
  have b__law_pick := F__law_pick.binds (ps := ["_law_state_here", "_law_row"]) fun _ _ _ _ _ _ us hl => match us, hl with | [_, _], _ => rfl
  have F__law_mixed := fun_mk (st := s__law_mixed) l__law_mixed c__law_mixed k__law_mixed
  have b__law_mixed := F__law_mixed.binds (ps := ["_law_state_here", "_law_row"]) fun _ _ _ _ _ _ us hl => match us, hl with | [_, _], _ => rfl
  have F__law_number := fun_mk (st := s__law_number) l__law_number c__law_number k__law_number
  have b__law_number := F__law_number.binds (ps := ["_law_state_here"]) fun _ _ _ _ _ _ us hl => match us, hl with | [_], _ => rfl
  have F__law_constant := fun_mk (st := s__law_constant) l__law_constant c__law_constant k__law_constant
  have b__law_constant := F__law_constant.binds (ps := ["_law_state_here"]) fun _ _ _ _ _ _ us hl => match us, hl with | [_], _ => rfl
  have F__law_values := fun_mk (st := s__law_values) l__law_values c__law_values k__law_values
  have b__law_values := F__law_values.binds (ps := ["_law_state_here"]) fun _ _ _ _ _ _ us hl => match us, hl with | [_], _ => rfl
  have F__law_names := fun_mk (st := s__law_names) l__law_names c__law_names k__law_names
  have b__law_names := F__law_names.binds (ps := ["_law_state_here", "_law_many"]) fun _ _ _ _ _ _ us hl => match us, hl with | [_, _], _ => rfl
  have F__law_is_int := fun_mk (st := s__law_is_int) l__law_is_int c__law_is_int k__law_is_int
  have b__law_is_int := F__law_is_int.binds (ps := ["_law_thing"]) fun _ _ _ _ _ _ us hl => match us, hl with | [_], _ => rfl
  have F__law_same := fun_mk (st := s__law_same) l__law_same c__law_same k__law_same
  have b__law_same := F__law_same.binds (ps := ["_law_actual", "_law_due"]) fun _ _ _ _ _ _ us hl => match us, hl with | [_, _], _ => rfl
  have F_Table__check_new := fun_mk (st := s_Table__check_new) l_Table__check_new c_Table__check_new k_Table__check_new
  have b_Table__check_new := F_Table__check_new.binds (ps := ["self", "places", "content"]) fun _ _ _ _ _ _ us hl => match us, hl with | [_, _, _], _ => rfl
  have F_Table__add := fun_mk (st := s_Table__add) l_Table__add c_Table__add k_Table__add
  have b_Table__add := F_Table__add.binds (ps := ["self", "places", "content"]) fun _ _ _ _ _ _ us hl => match us, hl with | [_, _, _], _ => rfl
  have F_Table___getitem__ := fun_mk (st := s_Table___getitem__) l_Table___getitem__ c_Table___getitem__ k_Table___getitem__
  have b_Table___getitem__ := F_Table___getitem__.binds (ps := ["self", "place"]) fun _ _ _ _ _ _ us hl => match us, hl with | [_, _], _ => rfl
  have F_Table_put := fun_mk (st := s_Table_put) l_Table_put c_Table_put k_Table_put
  have b_Table_put := F_Table_put.binds (ps := ["self", "places", "content"]) fun _ _ _ _ _ _ us hl => match us, hl with | [_, _, _], _ => rfl
  have F_Table_enter := fun_mk (st := s_Table_enter) l_Table_enter c_Table_enter k_Table_enter
  have b_Table_enter := F_Table_enter.binds (ps := ["self", "places", "content"]) fun _ _ _ _ _ _ us hl => match us, hl with | [_, _, _], _ => rfl
  have F__law_try_put := fun_mk (st := s__law_try_put) l__law_try_put c__law_try_put k__law_try_put
  have b__law_try_put := F__law_try_put.binds (ps := ["_law_table", "_law_word", "_law_places", "_law_content"]) fun _ _ _ _ _ _ us hl => match us, hl with | [_, _, _, _], _ => rfl
  have F__law_put_due := fun_mk (st := s__law_put_due) l__law_put_due c__law_put_due k__law_put_due
  have b__law_put_due := F__law_put_due.binds (ps := ["_law_keys", "_law_fields", "_law_rows", "_law_word", "_law_places", "_law_content"]) fun _ _ _ _ _ _ us hl => match us, hl with | [_, _, _, _, _, _], _ => rfl
  have F__law_in_order := fun_mk (st := s__law_in_order) l__law_in_order c__law_in_order k__law_in_order
  have b__law_in_order := F__law_in_order.binds (ps := ["_law_names_here", "_law_source"]) fun _ _ _ _ _ _ us hl => match us, hl with | [_, _], _ => rfl
  have F_Table__check_row := fun_mk (st := s_Table__check_row) l_Table__check_row c_Table__check_row k_Table__check_row
  have b_Table__check_row := F_Table__check_row.binds (ps := ["self", "row"]) fun _ _ _ _ _ _ us hl => match us, hl with | [_, _], _ => rfl
  have F_Table_write := fun_mk (st := s_Table_write) l_Table_write c_Table_write k_Table_write
  have b_Table_write := F_Table_write.binds (ps := ["self", "row", "field", "number"]) fun _ _ _ _ _ _ us hl => match us, hl with | [_, _, _, _], _ => rfl
  have F__law_try_write := fun_mk (st := s__law_try_write) l__law_try_write c__law_try_write k__law_try_write
  have b__law_try_write := F__law_try_write.binds (ps := ["_law_table", "_law_row", "_law_field", "_law_number_here"]) fun _ _ _ _ _ _ us hl => match us, hl with | [_, _, _, _], _ => rfl
  have F_Table_content_of := fun_mk (st := s_Table_content_of) l_Table_content_of c_Table_content_of k_Table_content_of
  have b_Table_content_of := F_Table_content_of.binds (ps := ["self", "row"]) fun _ _ _ _ _ _ us hl => match us, hl with | [_, _], _ => rfl
  have F__law_content_told := fun_mk (st := s__law_content_told) l__law_content_told c__law_content_told k__law_content_told
  have b__law_content_told := F__law_content_told.binds (ps := ["_law_table", "_law_row"]) fun _ _ _ _ _ _ us hl => match us, hl with | [_, _], _ => rfl
  have F__law_find := fun_mk (st := s__law_find) l__law_find c__law_find k__law_find
  have b__law_find := F__law_find.binds (ps := ["_law_table", "_law_key", "_law_value"]) fun _ _ _ _ _ _ us hl => match us, hl with | [_, _, _], _ => rfl
  have F__law_found := fun_mk (st := s__law_found) l__law_found c__law_found k__law_found
  have b__law_found := F__law_found.binds (ps := ["_law_rows", "_law_key", "_law_value"]) fun _ _ _ _ _ _ us hl => match us, hl with | [_, _, _], _ => rfl
  have F_Table_rows := fun_mk (st := s_Table_rows) l_Table_rows c_Table_rows k_Table_rows
  have b_Table_rows := F_Table_rows.binds (ps := ["self"]) fun _ _ _ _ _ _ us hl => match us, hl with | [_], _ => rfl
  have F_Table___len__ := fun_mk (st := s_Table___len__) l_Table___len__ c_Table___len__ k_Table___len__
  have b_Table___len__ := F_Table___len__.binds (ps := ["self"]) fun _ _ _ _ _ _ us hl => match us, hl with | [_], _ => rfl
  have F__law_is_table := fun_mk (st := s__law_is_table) l__law_is_table c__law_is_table k__law_is_table
  have b__law_is_table := F__law_is_table.binds (ps := ["_law_table", "_law_keys", "_law_rows", "_law_values_here", "_law_others"]) fun _ _ _ _ _ _ us hl => match us, hl with | [_, _, _, _, _], _ => rfl
  have F__law_new_row := fun_mk (st := s__law_new_row) l__law_new_row c__law_new_row k__law_new_row
  have b__law_new_row := F__law_new_row.binds (ps := ["_law_state_here", "_law_keys", "_law_fields", "_law_values_here", "_law_others", "_law_k"]) fun _ _ _ _ _ _ us hl => match us, hl with | [_, _, _, _, _, _], _ => rfl
  have F__law_puts := fun_mk (st := s__law_puts) l__law_puts c__law_puts k__law_puts
  have b__law_puts := F__law_puts.binds (ps := ["_law_table", "_law_keys", "_law_fields", "_law_rows", "_law_word", "_law_pair"]) fun _ _ _ _ _ _ us hl => match us, hl with | [_, _, _, _, _, _], _ => rfl
  have F__law_writes := fun_mk (st := s__law_writes) l__law_writes c__law_writes k__law_writes
  have b__law_writes := F__law_writes.binds (ps := ["_law_table", "_law_fields", "_law_rows", "_law_row", "_law_field", "_law_number_here"]) fun _ _ _ _ _ _ us hl => match us, hl with | [_, _, _, _, _, _], _ => rfl
  have F_Table___init__ := fun_mk (st := s_Table___init__) l_Table___init__ c_Table___init__ k_Table___init__
  have b_Table___init__ := F_Table___init__.binds (ps := ["self", "key_names", "field_names"]) fun _ _ _ _ _ _ us hl => match us, hl with | [_, _, _], _ => rfl
  have F_Table_twin := fun_mk (st := s_Table_twin) l_Table_twin c_Table_twin k_Table_twin
  have b_Table_twin := F_Table_twin.binds (ps := ["self"]) fun _ _ _ _ _ _ us hl => match us, hl with | [_], _ => rfl
  have F__law_twins_apart := fun_mk (st := s__law_twins_apart) l__law_twins_apart c__law_twins_apart k__law_twins_apart
  have b__law_twins_apart := F__law_twins_apart.binds (ps := ["_law_table", "_law_keys", "_law_fields", "_law_rows", "_law_values_here", "_law_others"]) fun _ _ _ _ _ _ us hl => match us, hl with | [_, _, _, _, _, _], _ => rfl
  have F_law := fun_mk (st := s_law) l_law c_law k_law
  have b_law := F_law.binds (ps := ["_law_script"]) fun _ _ _ _ _ _ us hl => match us, hl with | [_], _ => rfl
  refine ⟨PySem.W.fnOf "law" "law" (defArgs s_law) (defBody s_law) (defScope s_law) .none kV_law dc_law pm_law an_law cd_law ct_law, fun s v => .of_eq rfl, fun base _ _ => ?_⟩
  have C_BadRow : CalE0 l.prog w K mg base 1 "BadRow" a_BadRow f_BadRow _ ["self"] := ⟨ok_BadRow XK_BadRow lf_BadRow cd_BadRow lc_BadRow v2_BadRow fe_BadRow lcc_BadRow hD_BadRow (PySem.W.mg_none_of X G z_super) st_any htop, .all fun us hl => (match us, hl with | [_], _ => rfl), XK_BadRow, PySem.W.mg_of X G g_BadRow⟩
  have C_NoRow : CalE l.prog w K mg base 1 "NoRow" a_NoRow f_NoRow _ ["self", "row"] okx_NoRow fs_NoRow ["row"] := ⟨ok_NoRow XK_NoRow lf_NoRow cd_NoRow lc_NoRow v2_NoRow fe_NoRow lcc_NoRow hD_NoRow (PySem.W.mg_none_of X G z_super) st_any htop, .all fun us hl => (match us, hl with | [_, _], _ => rfl), XK_NoRow, PySem.W.mg_of X G g_NoRow⟩
  have C_Taken : CalE l.prog w K mg base 1 "Taken" a_Taken f_Taken _ ["self", "key", "row"] okx_Taken fs_Taken ["key", "row"] := ⟨ok_Taken XK_Taken lf_Taken cd_Taken lc_Taken v2_Taken fe_Taken lcc_Taken hD_Taken (PySem.W.mg_none_of X G z_super) st_any htop, .all fun us hl => (match us, hl with | [_, _, _], _ => rfl), XK_Taken, PySem.W.mg_of X G g_Taken⟩
  have C_UnknownField : CalEI l.prog w K mg base 1 "UnknownField" a_UnknownField f_UnknownField _ ["self", "name"] okx_UnknownField fs_UnknownField ["name"] := ⟨ok_UnknownField XK_UnknownField lf_UnknownField cd_UnknownField lc_UnknownField v2_UnknownField fe_UnknownField lcc_UnknownField hD_UnknownField (PySem.W.mg_none_of X G z_super) st_any htop, .all fun us hl => (match us, hl with | [_, _], _ => rfl), ⟨_, XK_UnknownField⟩, PySem.W.mg_of X G g_UnknownField⟩
  have C_UnknownKey : CalEI l.prog w K mg base 1 "UnknownKey" a_UnknownKey f_UnknownKey _ ["self", "name"] okx_UnknownKey fs_UnknownKey ["name"] := ⟨ok_UnknownKey XK_UnknownKey lf_UnknownKey cd_UnknownKey lc_UnknownKey v2_UnknownKey fe_UnknownKey lcc_UnknownKey hD_UnknownKey (PySem.W.mg_none_of X G z_super) st_any htop, .all fun us hl => (match us, hl with | [_, _], _ => rfl), ⟨_, XK_UnknownKey⟩, PySem.W.mg_of X G g_UnknownKey⟩
  have C__law_state : Cal l.prog w K mg base CX0 1 "_law_state" f__law_state _ ["_law_script"] (sp__law_state K) := ⟨ok__law_state F__law_state T, b__law_state, k__law_state, PySem.W.mg_of X G a__law_state⟩
  have C__law_draw : Cal l.prog w K mg base CX0 1 "_law_draw" f__law_draw _ ["_law_state_here", "_law_many"] (sp__law_draw K) := ⟨ok__law_draw F__law_draw T, b__law_draw, k__law_draw, PySem.W.mg_of X G a__law_draw⟩
  have C__law_pick : Cal l.prog w K mg base CX0 2 "_law_pick" f__law_pick _ ["_law_state_here", "_law_row"] (sp__law_pick K) := ⟨ok__law_pick F__law_pick T C__law_draw, b__law_pick, k__law_pick, PySem.W.mg_of X G a__law_pick⟩
  have C__law_mixed : Cal l.prog w K mg base CX0 2 "_law_mixed" f__law_mixed _ ["_law_state_here", "_law_row"] (sp__law_mixed K) := ⟨ok__law_mixed F__law_mixed T C__law_draw, b__law_mixed, k__law_mixed, PySem.W.mg_of X G a__law_mixed⟩
  have C__law_number : Cal l.prog w K mg base CX0 2 "_law_number" f__law_number _ ["_law_state_here"] (sp__law_number K) := ⟨ok__law_number F__law_number T C__law_draw, b__law_number, k__law_number, PySem.W.mg_of X G a__law_number⟩
  have C__law_constant : Cal l.prog w K mg base CX0 3 "_law_constant" f__law_constant _ ["_law_state_here"] (sp__law_constant K) := ⟨ok__law_constant F__law_constant T C__law_number C__law_draw, b__law_constant, k__law_constant, PySem.W.mg_of X G a__law_constant⟩
  have C__law_values : Cal l.prog w K mg base CX0 4 "_law_values" f__law_values _ ["_law_state_here"] (sp__law_values K) := ⟨ok__law_values F__law_values T C__law_constant C__law_draw, b__law_values, k__law_values, PySem.W.mg_of X G a__law_values⟩
  have C__law_names : Cal l.prog w K mg base CX0 2 "_law_names" f__law_names _ ["_law_state_here", "_law_many"] (sp__law_names K) := ⟨ok__law_names F__law_names T C__law_draw, b__law_names, k__law_names, PySem.W.mg_of X G a__law_names⟩
  have C__law_is_int : Cal l.prog w K mg base CX0 1 "_law_is_int" f__law_is_int _ ["_law_thing"] (sp__law_is_int K) := ⟨ok__law_is_int F__law_is_int T, b__law_is_int, k__law_is_int, PySem.W.mg_of X G a__law_is_int⟩
  have C__law_same : Cal l.prog w K mg base CX0 26 "_law_same" f__law_same _ ["_law_actual", "_law_due"] (sp__law_same K) := ⟨ok__law_same F__law_same T C__law_is_int b__law_same k__law_same (PySem.W.mg_of X G a__law_same), b__law_same, k__law_same, PySem.W.mg_of X G a__law_same⟩
  have C_Table__check_new : CalM l.prog w K mg base (L2.CX l.prog w) 3 a_Table "_check_new" f_Table__check_new _ ["self", "places", "content"] (sp_Table__check_new K) := ⟨⟨ok_Table__check_new F_Table__check_new T C_BadRow, b_Table__check_new⟩, ⟨pg_Table, hx_Table, po_Table, st_Table⟩, ⟨fa_Table__check_new, fn_Table__check_new, k_Table__check_new⟩⟩
  have C_Table__add : CalM l.prog w K mg base CX0 1 a_Table "_add" f_Table__add _ ["self", "places", "content"] (sp_Table__add K) := ⟨⟨ok_Table__add F_Table__add T, b_Table__add⟩, ⟨pg_Table, hx_Table, po_Table, st_Table⟩, ⟨fa_Table__add, fn_Table__add, k_Table__add⟩⟩
  have C_Table___getitem__ : CalSub l.prog w K mg base (L2.CX l.prog w) 3 a_Table f_Table___getitem__ _ ["self", "place"] (sp_Table___getitem__ K) := ⟨⟨ok_Table___getitem__ F_Table___getitem__ T C_UnknownKey, b_Table___getitem__⟩, ⟨fa_Table___getitem__, fn_Table___getitem__, fi_Table___getitem__⟩⟩
  have C_Table_put : CalM l.prog w K mg base (L2.CX l.prog w) 5 a_Table "put" f_Table_put _ ["self", "places", "content"] (sp_Table_put K) := ⟨⟨ok_Table_put F_Table_put T C_Table__check_new C_Table__add C_Table___getitem__ C_Taken, b_Table_put⟩, ⟨pg_Table, hx_Table, po_Table, st_Table⟩, ⟨fa_Table_put, fn_Table_put, k_Table_put⟩⟩
  have C_Table_enter : CalM l.prog w K mg base (L2.CX l.prog w) 4 a_Table "enter" f_Table_enter _ ["self", "places", "content"] (sp_Table_enter K) := ⟨⟨ok_Table_enter F_Table_enter T C_Table__check_new C_Table__add, b_Table_enter⟩, ⟨pg_Table, hx_Table, po_Table, st_Table⟩, ⟨fa_Table_enter, fn_Table_enter, k_Table_enter⟩⟩
  have C__law_try_put : Cal l.prog w K mg base CX0 27 "_law_try_put" f__law_try_put _ ["_law_table", "_law_word", "_law_places", "_law_content"] (sp__law_try_put K) := ⟨ok__law_try_put F__law_try_put T C__law_same C_Table_put C_Table_enter, b__law_try_put, k__law_try_put, PySem.W.mg_of X G a__law_try_put⟩
  have C__law_put_due : Cal l.prog w K mg base CX0 1 "_law_put_due" f__law_put_due _ ["_law_keys", "_law_fields", "_law_rows", "_law_word", "_law_places", "_law_content"] (sp__law_put_due K) := ⟨ok__law_put_due F__law_put_due T, b__law_put_due, k__law_put_due, PySem.W.mg_of X G a__law_put_due⟩
  have C__law_in_order : Cal l.prog w K mg base CX0 1 "_law_in_order" f__law_in_order _ ["_law_names_here", "_law_source"] (sp__law_in_order K) := ⟨ok__law_in_order F__law_in_order T, b__law_in_order, k__law_in_order, PySem.W.mg_of X G a__law_in_order⟩
  have C_Table__check_row : CalM l.prog w K mg base (L2.CX l.prog w) 3 a_Table "_check_row" f_Table__check_row _ ["self", "row"] (sp_Table__check_row K) := ⟨⟨ok_Table__check_row F_Table__check_row T C_NoRow, b_Table__check_row⟩, ⟨pg_Table, hx_Table, po_Table, st_Table⟩, ⟨fa_Table__check_row, fn_Table__check_row, k_Table__check_row⟩⟩
  have C_Table_write : CalM l.prog w K mg base (L2.CX l.prog w) 4 a_Table "write" f_Table_write _ ["self", "row", "field", "number"] (sp_Table_write K) := ⟨⟨ok_Table_write F_Table_write T C_Table__check_row C_UnknownField, b_Table_write⟩, ⟨pg_Table, hx_Table, po_Table, st_Table⟩, ⟨fa_Table_write, fn_Table_write, k_Table_write⟩⟩
  have C__law_try_write : Cal l.prog w K mg base CX0 5 "_law_try_write" f__law_try_write _ ["_law_table", "_law_row", "_law_field", "_law_number_here"] (sp__law_try_write K) := ⟨ok__law_try_write F__law_try_write T C_Table_write, b__law_try_write, k__law_try_write, PySem.W.mg_of X G a__law_try_write⟩
  have C_Table_content_of : CalM l.prog w K mg base (L2.CX l.prog w) 4 a_Table "content_of" f_Table_content_of _ ["self", "row"] (sp_Table_content_of K) := ⟨⟨ok_Table_content_of F_Table_content_of T C_Table__check_row, b_Table_content_of⟩, ⟨pg_Table, hx_Table, po_Table, st_Table⟩, ⟨fa_Table_content_of, fn_Table_content_of, k_Table_content_of⟩⟩
  have C__law_content_told : Cal l.prog w K mg base CX0 5 "_law_content_told" f__law_content_told _ ["_law_table", "_law_row"] (sp__law_content_told K) := ⟨ok__law_content_told F__law_content_told T C_Table_content_of, b__law_content_told, k__law_content_told, PySem.W.mg_of X G a__law_content_told⟩
  have C__law_find : Cal l.prog w K mg base CX0 5 "_law_find" f__law_find _ ["_law_table", "_law_key", "_law_value"] (sp__law_find K) := ⟨ok__law_find F__law_find T C_Table___getitem__, b__law_find, k__law_find, PySem.W.mg_of X G a__law_find⟩
  have C__law_found : Cal l.prog w K mg base CX0 1 "_law_found" f__law_found _ ["_law_rows", "_law_key", "_law_value"] (sp__law_found K) := ⟨ok__law_found F__law_found T, b__law_found, k__law_found, PySem.W.mg_of X G a__law_found⟩
  have C_Table_rows : CalM l.prog w K mg base CX0 1 a_Table "rows" f_Table_rows _ ["self"] (sp_Table_rows K) := ⟨⟨ok_Table_rows F_Table_rows T, b_Table_rows⟩, ⟨pg_Table, hx_Table, po_Table, st_Table⟩, ⟨fa_Table_rows, fn_Table_rows, k_Table_rows⟩⟩
  have C_Table___len__ : CalL l.prog w K mg base CX0 1 a_Table f_Table___len__ _ ["self"] (sp_Table___len__ K) := ⟨⟨ok_Table___len__ F_Table___len__ T, b_Table___len__⟩, ⟨fa_Table___len__, fn_Table___len__⟩⟩
  have C__law_is_table : Cal l.prog w K mg base CX0 27 "_law_is_table" f__law_is_table _ ["_law_table", "_law_keys", "_law_rows", "_law_values_here", "_law_others"] (sp__law_is_table K) := ⟨ok__law_is_table F__law_is_table T C__law_same C__law_content_told C__law_find C__law_found C_Table_rows C_Table___len__, b__law_is_table, k__law_is_table, PySem.W.mg_of X G a__law_is_table⟩
  have C__law_new_row : Cal l.prog w K mg base CX0 3 "_law_new_row" f__law_new_row _ ["_law_state_here", "_law_keys", "_law_fields", "_law_values_here", "_law_others", "_law_k"] (sp__law_new_row K) := ⟨ok__law_new_row F__law_new_row T C__law_mixed C__law_draw C__law_number C__law_in_order, b__law_new_row, k__law_new_row, PySem.W.mg_of X G a__law_new_row⟩
  have C__law_puts : Cal l.prog w K mg base CX0 28 "_law_puts" f__law_puts _ ["_law_table", "_law_keys", "_law_fields", "_law_rows", "_law_word", "_law_pair"] (sp__law_puts K) := ⟨ok__law_puts F__law_puts T C__law_put_due C__law_same C__law_try_put C__law_in_order, b__law_puts, k__law_puts, PySem.W.mg_of X G a__law_puts⟩
  have C__law_writes : Cal l.prog w K mg base CX0 27 "_law_writes" f__law_writes _ ["_law_table", "_law_fields", "_law_rows", "_law_row", "_law_field", "_law_number_here"] (sp__law_writes K) := ⟨ok__law_writes F__law_writes T C__law_same C__law_try_write, b__law_writes, k__law_writes, PySem.W.mg_of X G a__law_writes⟩
  have C_Table___init__ : CalI l.prog w K mg base CX0 1 "Table" a_Table f_Table___init__ _ ["self", "key_names", "field_names"] (sp_Table___init__ K) := ⟨⟨ok_Table___init__ F_Table___init__ T, b_Table___init__⟩, ⟨mi_Table, fa_Table___init__, fn_Table___init__, ko_Table⟩, PySem.W.mg_of X G g_Table⟩
  have C_Table_twin : CalM l.prog w K mg base CX0 5 a_Table "twin" f_Table_twin _ ["self"] (sp_Table_twin K) := ⟨⟨ok_Table_twin F_Table_twin T C_Table___init__ C_Table_rows C_Table_enter, b_Table_twin⟩, ⟨pg_Table, hx_Table, po_Table, st_Table⟩, ⟨fa_Table_twin, fn_Table_twin, k_Table_twin⟩⟩
  have C__law_twins_apart : Cal l.prog w K mg base CX0 29 "_law_twins_apart" f__law_twins_apart _ ["_law_table", "_law_keys", "_law_fields", "_law_rows", "_law_values_here", "_law_others"] (sp__law_twins_apart K) := ⟨ok__law_twins_apart F__law_twins_apart T C__law_is_table C__law_puts C__law_writes C_Table_twin, b__law_twins_apart, k__law_twins_apart, PySem.W.mg_of X G a__law_twins_apart⟩
  exact ok_law F_law T C__law_state C__law_names C__law_values C__law_twins_apart C__law_new_row C__law_is_table C__law_draw C__law_puts C__law_number C__law_writes C__law_pick C_Table___init__ C_Table_twin
theorem walk {l : PySem.W.OpenLaw} {q : Program} {loose : List Str} {XP : (Str → Option Value) → Heap → Prop} {YP : World → Heap → Prop} {d : DefRec} {K : Params → PySem.W.Frag} (hn : l.most = some 63) (hdf : d.params.defaults = [])
    (hY : ∀ (w : World) (h : Heap), YP w h → (K w.params).In h)
    (F : ∀ (w : World) (mg : Str → Option Value) (fa : Addr) (h : Heap), (K w.params).In h → h.Ns mainGlobals mg → mg d.name = some (.ref fa) →
      ∃ fd : FuncData, (∀ (s : Shared) (u : Value), BindsTo s fd ⟨[u], []⟩ [("_law_script", u)]) ∧ ∀ base : Heap, (K w.params).In base → base.Ns mainGlobals mg → FnOk l.prog w (K w.params) mg base CX0 80 fa fd ["_law_script"] (spLaw (K w.params))) :
    PySem.W.WalkO q loose XP YP l.row.toRowW d [] (fun f vs => PySem.call f vs) :=
  L2.walk_of (n := 63) (k := 80) (x := "_law_script") (CX := fun _ => CX0) (sp := fun w => spLaw (K w.params)) hn (by decide) hdf ⟨rfl, by decide, by decide⟩ hY F (fun _ _ a ns hl _ hS => ⟨a, ns, rfl, hS, hl, fun _ => rfl⟩) fun _ _ _ _ _ z => z
end K21
open PySem PySem.W PySem.Calls PyProof.Rows
namespace K21
open PySem PySem.W PyProof.Rows HeadRun El
set_option maxRecDepth 100000
set_option maxHeartbeats 0
abbrev tR : OpenRow := OpenLaw.row PySem.Challenge.rw_elseput_k21_rows_of_a_table
def tq : Program := { PySem.Challenge.pw_elseput_k21_rows_of_a_table with main := { PySem.Challenge.pw_elseput_k21_rows_of_a_table.main with body := [topS 33] } }
def tl0 : List PySem.Str := [PySem.Str.ofString "__name__", PySem.Str.ofString "ElseputError", PySem.Str.ofString "UnknownName", PySem.Str.ofString "UnknownKey", PySem.Str.ofString "UnknownField", PySem.Str.ofString "BadRow", PySem.Str.ofString "NoRow", PySem.Str.ofString "Taken", PySem.Str.ofString "Table", PySem.Str.ofString "_law_state", PySem.Str.ofString "_law_draw", PySem.Str.ofString "_law_pick", PySem.Str.ofString "_law_mixed", PySem.Str.ofString "_law_number", PySem.Str.ofString "_law_constant", PySem.Str.ofString "_law_values", PySem.Str.ofString "_law_names", PySem.Str.ofString "_law_is_int", PySem.Str.ofString "_law_same", PySem.Str.ofString "_law_try_put", PySem.Str.ofString "_law_put_due", PySem.Str.ofString "_law_in_order", PySem.Str.ofString "_law_try_write", PySem.Str.ofString "_law_content_told", PySem.Str.ofString "_law_find", PySem.Str.ofString "_law_found", PySem.Str.ofString "_law_is_table", PySem.Str.ofString "_law_new_row", PySem.Str.ofString "_law_puts", PySem.Str.ofString "_law_writes", PySem.Str.ofString "_law_twins_apart"]
def tl : List PySem.Str := tl0
local macro_rules | `(tactic| o_head $H) => `(tactic| (exfalso; assumption))
theorem t0 (hf : False) : tR.Holds := by k_head
noncomputable def tas : List Nat := (t0.heap_1 (PySem.W.aWorld 1).params).map (·.1)
theorem tep (P : Params) : placesAre tas (t0.heap_1 P) = true := by kernel_rfl
theorem tek : ∀ P, tas = (t0.heap_1 P).map (·.1) := fun P => places_ok tas (t0.heap_1 P) (tep P)
theorem tA (w : World) : TopLooks tR tq tl 30000 w := by
  intro os
  kernel_rfl
theorem tC (w : World) : TopObjs tR t0.heap_1 tas 30000 w := by
  intro os
  kernel_rfl
end K21
set_option maxRecDepth 100000 in
set_option maxHeartbeats 0 in
theorem PySem.Challenge.cw_elseput_k21_rows_of_a_table_holds : PySem.Challenge.rw_elseput_k21_rows_of_a_table.Holds := by
  w_on; o_law
  refine El.head_tiny (r := K21.tR) (q := K21.tq) (loose := K21.tl) (K := K21.t0.heap_1) (as := K21.tas) (ek := K21.tek) 30000 K21.tA K21.tC (by kernel_rfl) (fun s => by kernel_rfl) (by rfl) (by rfl) (by rfl) (by rfl) (by first | assumption | decide +kernel) (by decide +kernel) ⟨rfl, rfl, rfl, rfl, rfl, by decide +kernel⟩ ?hw ?hc
  case hw => w_witness2
  case hc =>
  k_fill
  refine K21.walk (l := PySem.Challenge.rw_elseput_k21_rows_of_a_table) rfl rfl (fun w h Y => PySem.W.kIn_of Y) ?F
  case F =>
    intro w mg fa h KX G hmg
    refine' K21.all_mk KX G hmg ?g_Table ?pg_Table ?hx_Table ?po_Table ?st_Table ?rr_Table ?rg_Table ?mi_Table ?ko_Table ?sf_Table ?na_Table__first_rows ?na_Table__rows ?na_Table_field_names ?na_Table_key_names ?a__law_state ?l__law_state ?c__law_state ?k__law_state ?a__law_draw ?l__law_draw ?c__law_draw ?k__law_draw ?a__law_pick ?l__law_pick ?c__law_pick ?k__law_pick ?a__law_mixed ?l__law_mixed ?c__law_mixed ?k__law_mixed ?a__law_number ?l__law_number ?c__law_number ?k__law_number ?a__law_constant ?l__law_constant ?c__law_constant ?k__law_constant ?a__law_values ?l__law_values ?c__law_values ?k__law_values ?a__law_names ?l__law_names ?c__law_names ?k__law_names ?a__law_is_int ?l__law_is_int ?c__law_is_int ?k__law_is_int ?a__law_same ?l__law_same ?c__law_same ?k__law_same ?fa_Table__check_new ?fn_Table__check_new ?l_Table__check_new ?c_Table__check_new ?k_Table__check_new ?fa_Table__add ?fn_Table__add ?l_Table__add ?c_Table__add ?k_Table__add ?fa_Table___getitem__ ?fn_Table___getitem__ ?fi_Table___getitem__ ?l_Table___getitem__ ?c_Table___getitem__ ?k_Table___getitem__ ?fa_Table_put ?fn_Table_put ?l_Table_put ?c_Table_put ?k_Table_put ?fa_Table_enter ?fn_Table_enter ?l_Table_enter ?c_Table_enter ?k_Table_enter ?a__law_try_put ?l__law_try_put ?c__law_try_put ?k__law_try_put ?a__law_put_due ?l__law_put_due ?c__law_put_due ?k__law_put_due ?a__law_in_order ?l__law_in_order ?c__law_in_order ?k__law_in_order ?fa_Table__check_row ?fn_Table__check_row ?l_Table__check_row ?c_Table__check_row ?k_Table__check_row ?fa_Table_write ?fn_Table_write ?l_Table_write ?c_Table_write ?k_Table_write ?a__law_try_write ?l__law_try_write ?c__law_try_write ?k__law_try_write ?fa_Table_content_of ?fn_Table_content_of ?l_Table_content_of ?c_Table_content_of ?k_Table_content_of ?a__law_content_told ?l__law_content_told ?c__law_content_told ?k__law_content_told ?a__law_find ?l__law_find ?c__law_find ?k__law_find ?a__law_found ?l__law_found ?c__law_found ?k__law_found ?fa_Table_rows ?fn_Table_rows ?l_Table_rows ?c_Table_rows ?k_Table_rows ?fa_Table___len__ ?fn_Table___len__ ?l_Table___len__ ?c_Table___len__ ?k_Table___len__ ?a__law_is_table ?l__law_is_table ?c__law_is_table ?k__law_is_table ?a__law_new_row ?l__law_new_row ?c__law_new_row ?k__law_new_row ?a__law_puts ?l__law_puts ?c__law_puts ?k__law_puts ?a__law_writes ?l__law_writes ?c__law_writes ?k__law_writes ?fa_Table___init__ ?fn_Table___init__ ?l_Table___init__ ?c_Table___init__ ?k_Table___init__ ?fa_Table_twin ?fn_Table_twin ?l_Table_twin ?c_Table_twin ?k_Table_twin ?a__law_twins_apart ?l__law_twins_apart ?c__law_twins_apart ?k__law_twins_apart ?a_law ?l_law ?c_law ?k_law ?z_ValueError ?z_any ?z_bool ?z_dict ?z_int ?z_isinstance ?z_len ?z_list ?z_range ?z_set ?z_str ?z_super ?z_tuple ?g_BadRow ?g_ElseputError ?g_NoRow ?g_Taken ?g_UnknownField ?g_UnknownKey ?g_UnknownName ?st_any ?htop ?xc_UnknownName ?ref_UnknownName ?sa_UnknownName ?eb_UnknownName ?ty_UnknownName ?kC_UnknownName ?iC_UnknownName ?tI_UnknownName ?sup_UnknownName ?sv_UnknownName ?mro_UnknownName ?no0_UnknownName ?ga_UnknownName ?gg_UnknownName ?hd_UnknownName ?hcl_UnknownName ?hn_UnknownName ?ht_UnknownName ?hm_UnknownName ?lf_UnknownName ?cd_UnknownName ?lc_UnknownName ?v2_UnknownName ?fe_UnknownName ?lcc_UnknownName ?hD_UnknownName ?xc_BadRow ?ref_BadRow ?sa_BadRow ?eb_BadRow ?ty_BadRow ?kC_BadRow ?iC_BadRow ?tI_BadRow ?sup_BadRow ?sv_BadRow ?mro_BadRow ?ga_BadRow ?gg_BadRow ?hd_BadRow ?hcl_BadRow ?hn_BadRow ?ht_BadRow ?hm_BadRow ?lf_BadRow ?cd_BadRow ?lc_BadRow ?v2_BadRow ?fe_BadRow ?lcc_BadRow ?hD_BadRow ?xc_NoRow ?ref_NoRow ?sa_NoRow ?eb_NoRow ?ty_NoRow ?kC_NoRow ?iC_NoRow ?tI_NoRow ?sup_NoRow ?sv_NoRow ?mro_NoRow ?no0_NoRow ?ga_NoRow ?gg_NoRow ?hd_NoRow ?hcl_NoRow ?hn_NoRow ?ht_NoRow ?hm_NoRow ?lf_NoRow ?cd_NoRow ?lc_NoRow ?v2_NoRow ?fe_NoRow ?lcc_NoRow ?hD_NoRow ?xc_Taken ?ref_Taken ?sa_Taken ?eb_Taken ?ty_Taken ?kC_Taken ?iC_Taken ?tI_Taken ?sup_Taken ?sv_Taken ?mro_Taken ?no0_Taken ?no1_Taken ?ga_Taken ?gg_Taken ?hd_Taken ?hcl_Taken ?hn_Taken ?ht_Taken ?hm_Taken ?lf_Taken ?cd_Taken ?lc_Taken ?v2_Taken ?fe_Taken ?lcc_Taken ?hD_Taken ?xc_UnknownKey ?ref_UnknownKey ?sa_UnknownKey ?eb_UnknownKey ?ty_UnknownKey ?kC_UnknownKey ?iC_UnknownKey ?tI_UnknownKey ?sv_UnknownKey ?no0_UnknownKey ?ga_UnknownKey ?gg_UnknownKey ?hd_UnknownKey ?hcl_UnknownKey ?hn_UnknownKey ?ht_UnknownKey ?hm_UnknownKey ?lf_UnknownKey ?cd_UnknownKey ?lc_UnknownKey ?v2_UnknownKey ?fe_UnknownKey ?lcc_UnknownKey ?sup_UnknownKey ?mro_UnknownKey ?hD_UnknownKey ?xc_UnknownField ?ref_UnknownField ?sa_UnknownField ?eb_UnknownField ?ty_UnknownField ?kC_UnknownField ?iC_UnknownField ?tI_UnknownField ?sv_UnknownField ?no0_UnknownField ?ga_UnknownField ?gg_UnknownField ?hd_UnknownField ?hcl_UnknownField ?hn_UnknownField ?ht_UnknownField ?hm_UnknownField ?lf_UnknownField ?cd_UnknownField ?lc_UnknownField ?v2_UnknownField ?fe_UnknownField ?lcc_UnknownField ?sup_UnknownField ?mro_UnknownField ?hD_UnknownField ?mb_ElseputError ?md_ElseputError ?mt_ElseputError ?ms_BadRow_ElseputError ?ms_NoRow_ElseputError ?ms_Taken_ElseputError ?ms_UnknownField_ElseputError ?ms_UnknownKey_ElseputError ?kit_BadRow_BadRow ?kit_BadRow_Taken ?kit_BadRow_ValueError ?kit_BadRow_NoRow ?kit_BadRow_UnknownField ?kit_BadRow_UnknownKey ?kit_BadRow_UnknownName ?kit_NoRow_BadRow ?kit_NoRow_Taken ?kit_NoRow_ValueError ?kit_NoRow_NoRow ?kit_NoRow_UnknownField ?kit_NoRow_UnknownKey ?kit_NoRow_UnknownName ?kit_Taken_BadRow ?kit_Taken_Taken ?kit_Taken_ValueError ?kit_Taken_NoRow ?kit_Taken_UnknownField ?kit_Taken_UnknownKey ?kit_Taken_UnknownName ?kit_UnknownField_BadRow ?kit_UnknownField_Taken ?kit_UnknownField_ValueError ?kit_UnknownField_NoRow ?kit_UnknownField_UnknownField ?kit_UnknownField_UnknownKey ?kit_UnknownField_UnknownName ?kit_UnknownKey_BadRow ?kit_UnknownKey_Taken ?kit_UnknownKey_ValueError ?kit_UnknownKey_NoRow ?kit_UnknownKey_UnknownField ?kit_UnknownKey_UnknownKey ?kit_UnknownKey_UnknownName
    (case g_Table => k_is)
    (case pg_Table => k_is)
    (case hx_Table => k_is)
    (case po_Table => k_is)
    (case st_Table => k_is)
    (case rr_Table => k_is)
    (case rg_Table => k_is)
    (case mi_Table => k_is)
    (case ko_Table => k_is)
    (case sf_Table => k_is)
    (case na_Table__first_rows => k_is)
    (case na_Table__rows => k_is)
    (case na_Table_field_names => k_is)
    (case na_Table_key_names => k_is)
    (case a__law_state => k_is)
    (case l__law_state => k_is)
    (case c__law_state => k_is)
    (case k__law_state => k_is)
    (case a__law_draw => k_is)
    (case l__law_draw => k_is)
    (case c__law_draw => k_is)
    (case k__law_draw => k_is)
    (case a__law_pick => k_is)
    (case l__law_pick => k_is)
    (case c__law_pick => k_is)
    (case k__law_pick => k_is)
    (case a__law_mixed => k_is)
    (case l__law_mixed => k_is)
    (case c__law_mixed => k_is)
    (case k__law_mixed => k_is)
    (case a__law_number => k_is)
    (case l__law_number => k_is)
    (case c__law_number => k_is)
    (case k__law_number => k_is)
    (case a__law_constant => k_is)
    (case l__law_constant => k_is)
    (case c__law_constant => k_is)
    (case k__law_constant => k_is)
    (case a__law_values => k_is)
    (case l__law_values => k_is)
    (case c__law_values => k_is)
    (case k__law_values => k_is)
    (case a__law_names => k_is)
    (case l__law_names => k_is)
    (case c__law_names => k_is)
    (case k__law_names => k_is)
    (case a__law_is_int => k_is)
    (case l__law_is_int => k_is)
    (case c__law_is_int => k_is)
    (case k__law_is_int => k_is)
    (case a__law_same => k_is)
    (case l__law_same => k_is)
    (case c__law_same => k_is)
    (case k__law_same => k_is)
    (case fa_Table__check_new => k_is)
    (case fn_Table__check_new => k_is)
    (case l_Table__check_new => k_is)
    (case c_Table__check_new => k_is)
    (case k_Table__check_new => k_is)
    (case fa_Table__add => k_is)
    (case fn_Table__add => k_is)
    (case l_Table__add => k_is)
    (case c_Table__add => k_is)
    (case k_Table__add => k_is)
    (case fa_Table___getitem__ => k_is)
    (case fn_Table___getitem__ => k_is)
    (case fi_Table___getitem__ => k_is)
    (case l_Table___getitem__ => k_is)
    (case c_Table___getitem__ => k_is)
    (case k_Table___getitem__ => k_is)
    (case fa_Table_put => k_is)
    (case fn_Table_put => k_is)
    (case l_Table_put => k_is)
    (case c_Table_put => k_is)
    (case k_Table_put => k_is)
    (case fa_Table_enter => k_is)
    (case fn_Table_enter => k_is)
    (case l_Table_enter => k_is)
    (case c_Table_enter => k_is)
    (case k_Table_enter => k_is)
    (case a__law_try_put => k_is)
    (case l__law_try_put => k_is)
    (case c__law_try_put => k_is)
    (case k__law_try_put => k_is)
    (case a__law_put_due => k_is)
    (case l__law_put_due => k_is)
    (case c__law_put_due => k_is)
    (case k__law_put_due => k_is)
    (case a__law_in_order => k_is)
    (case l__law_in_order => k_is)
    (case c__law_in_order => k_is)
    (case k__law_in_order => k_is)
    (case fa_Table__check_row => k_is)
    (case fn_Table__check_row => k_is)
    (case l_Table__check_row => k_is)
    (case c_Table__check_row => k_is)
    (case k_Table__check_row => k_is)
    (case fa_Table_write => k_is)
    (case fn_Table_write => k_is)
    (case l_Table_write => k_is)
    (case c_Table_write => k_is)
    (case k_Table_write => k_is)
    (case a__law_try_write => k_is)
    (case l__law_try_write => k_is)
    (case c__law_try_write => k_is)
    (case k__law_try_write => k_is)
    (case fa_Table_content_of => k_is)
    (case fn_Table_content_of => k_is)
    (case l_Table_content_of => k_is)
    (case c_Table_content_of => k_is)
    (case k_Table_content_of => k_is)
    (case a__law_content_told => k_is)
    (case l__law_content_told => k_is)
    (case c__law_content_told => k_is)
    (case k__law_content_told => k_is)
    (case a__law_find => k_is)
    (case l__law_find => k_is)
    (case c__law_find => k_is)
    (case k__law_find => k_is)
    (case a__law_found => k_is)
    (case l__law_found => k_is)
    (case c__law_found => k_is)
    (case k__law_found => k_is)
    (case fa_Table_rows => k_is)
    (case fn_Table_rows => k_is)
    (case l_Table_rows => k_is)
    (case c_Table_rows => k_is)
    (case k_Table_rows => k_is)
    (case fa_Table___len__ => k_is)
    (case fn_Table___len__ => k_is)
    (case l_Table___len__ => k_is)
    (case c_Table___len__ => k_is)
    (case k_Table___len__ => k_is)
    (case a__law_is_table => k_is)
    (case l__law_is_table => k_is)
    (case c__law_is_table => k_is)
    (case k__law_is_table => k_is)
    (case a__law_new_row => k_is)
    (case l__law_new_row => k_is)
    (case c__law_new_row => k_is)
    (case k__law_new_row => k_is)
    (case a__law_puts => k_is)
    (case l__law_puts => k_is)
    (case c__law_puts => k_is)
    (case k__law_puts => k_is)
    (case a__law_writes => k_is)
    (case l__law_writes => k_is)
    (case c__law_writes => k_is)
    (case k__law_writes => k_is)
    (case fa_Table___init__ => k_is)
    (case fn_Table___init__ => k_is)
    (case l_Table___init__ => k_is)
    (case c_Table___init__ => k_is)
    (case k_Table___init__ => k_is)
    (case fa_Table_twin => k_is)
    (case fn_Table_twin => k_is)
    (case l_Table_twin => k_is)
    (case c_Table_twin => k_is)
    (case k_Table_twin => k_is)
    (case a__law_twins_apart => k_is)
    (case l__law_twins_apart => k_is)
    (case c__law_twins_apart => k_is)
    (case k__law_twins_apart => k_is)
    (case a_law => k_is)
    (case l_law => k_is)
    (case c_law => k_is)
    (case k_law => k_is)
    (case z_ValueError => k_is)
    (case z_any => k_is)
    (case z_bool => k_is)
    (case z_dict => k_is)
    (case z_int => k_is)
    (case z_isinstance => k_is)
    (case z_len => k_is)
    (case z_list => k_is)
    (case z_range => k_is)
    (case z_set => k_is)
    (case z_str => k_is)
    (case z_super => k_is)
    (case z_tuple => k_is)
    (case g_BadRow => k_is)
    (case g_ElseputError => k_is)
    (case g_NoRow => k_is)
    (case g_Taken => k_is)
    (case g_UnknownField => k_is)
    (case g_UnknownKey => k_is)
    (case g_UnknownName => k_is)
    (case st_any => k_is)
    (case htop => first | rfl | decide +kernel | k_is)
    (case xc_UnknownName => k_is)
    (case ref_UnknownName => first | rfl | decide +kernel | k_is)
    (case sa_UnknownName => k_is)
    (case eb_UnknownName => k_is)
    (case ty_UnknownName => k_is)
    (case kC_UnknownName => k_is)
    (case iC_UnknownName => k_is)
    (case tI_UnknownName => k_is)
    (case sup_UnknownName => ks_is)
    (case sv_UnknownName => k_is)
    (case mro_UnknownName => k_is)
    (case no0_UnknownName => k_is)
    (case ga_UnknownName => k_is)
    (case gg_UnknownName => k_is)
    (case hd_UnknownName => k_is)
    (case hcl_UnknownName => k_is)
    (case hn_UnknownName => k_is)
    (case ht_UnknownName => k_is)
    (case hm_UnknownName => k_is)
    (case lf_UnknownName => k_is)
    (case cd_UnknownName => k_is)
    (case lc_UnknownName => k_is)
    (case v2_UnknownName => first | rfl | decide +kernel | k_is)
    (case fe_UnknownName => first | rfl | decide +kernel | k_is)
    (case lcc_UnknownName => k_is)
    (case hD_UnknownName => k_is)
    (case xc_BadRow => k_is)
    (case ref_BadRow => first | rfl | decide +kernel | k_is)
    (case sa_BadRow => k_is)
    (case eb_BadRow => k_is)
    (case ty_BadRow => k_is)
    (case kC_BadRow => k_is)
    (case iC_BadRow => k_is)
    (case tI_BadRow => k_is)
    (case sup_BadRow => ks_is)
    (case sv_BadRow => k_is)
    (case mro_BadRow => k_is)
    (case ga_BadRow => k_is)
    (case gg_BadRow => k_is)
    (case hd_BadRow => k_is)
    (case hcl_BadRow => k_is)
    (case hn_BadRow => k_is)
    (case ht_BadRow => k_is)
    (case hm_BadRow => k_is)
    (case lf_BadRow => k_is)
    (case cd_BadRow => k_is)
    (case lc_BadRow => k_is)
    (case v2_BadRow => first | rfl | decide +kernel | k_is)
    (case fe_BadRow => first | rfl | decide +kernel | k_is)
    (case lcc_BadRow => k_is)
    (case hD_BadRow => k_is)
    (case xc_NoRow => k_is)
    (case ref_NoRow => first | rfl | decide +kernel | k_is)
    (case sa_NoRow => k_is)
    (case eb_NoRow => k_is)
    (case ty_NoRow => k_is)
    (case kC_NoRow => k_is)
    (case iC_NoRow => k_is)
    (case tI_NoRow => k_is)
    (case sup_NoRow => ks_is)
    (case sv_NoRow => k_is)
    (case mro_NoRow => k_is)
    (case no0_NoRow => k_is)
    (case ga_NoRow => k_is)
    (case gg_NoRow => k_is)
    (case hd_NoRow => k_is)
    (case hcl_NoRow => k_is)
    (case hn_NoRow => k_is)
    (case ht_NoRow => k_is)
    (case hm_NoRow => k_is)
    (case lf_NoRow => k_is)
    (case cd_NoRow => k_is)
    (case lc_NoRow => k_is)
    (case v2_NoRow => first | rfl | decide +kernel | k_is)
    (case fe_NoRow => first | rfl | decide +kernel | k_is)
    (case lcc_NoRow => k_is)
    (case hD_NoRow => k_is)
    (case xc_Taken => k_is)
    (case ref_Taken => first | rfl | decide +kernel | k_is)
    (case sa_Taken => k_is)
    (case eb_Taken => k_is)
    (case ty_Taken => k_is)
    (case kC_Taken => k_is)
    (case iC_Taken => k_is)
    (case tI_Taken => k_is)
    (case sup_Taken => ks_is)
    (case sv_Taken => k_is)
    (case mro_Taken => k_is)
    (case no0_Taken => k_is)
    (case no1_Taken => k_is)
    (case ga_Taken => k_is)
    (case gg_Taken => k_is)
    (case hd_Taken => k_is)
    (case hcl_Taken => k_is)
    (case hn_Taken => k_is)
    (case ht_Taken => k_is)
    (case hm_Taken => k_is)
    (case lf_Taken => k_is)
    (case cd_Taken => k_is)
    (case lc_Taken => k_is)
    (case v2_Taken => first | rfl | decide +kernel | k_is)
    (case fe_Taken => first | rfl | decide +kernel | k_is)
    (case lcc_Taken => k_is)
    (case hD_Taken => k_is)
    (case xc_UnknownKey => k_is)
    (case ref_UnknownKey => first | rfl | decide +kernel | k_is)
    (case sa_UnknownKey => k_is)
    (case eb_UnknownKey => k_is)
    (case ty_UnknownKey => k_is)
    (case kC_UnknownKey => k_is)
    (case iC_UnknownKey => k_is)
    (case tI_UnknownKey => k_is)
    (case sv_UnknownKey => k_is)
    (case no0_UnknownKey => k_is)
    (case ga_UnknownKey => k_is)
    (case gg_UnknownKey => k_is)
    (case hd_UnknownKey => k_is)
    (case hcl_UnknownKey => k_is)
    (case hn_UnknownKey => k_is)
    (case ht_UnknownKey => k_is)
    (case hm_UnknownKey => k_is)
    (case lf_UnknownKey => k_is)
    (case cd_UnknownKey => k_is)
    (case lc_UnknownKey => k_is)
    (case v2_UnknownKey => first | rfl | decide +kernel | k_is)
    (case fe_UnknownKey => first | rfl | decide +kernel | k_is)
    (case lcc_UnknownKey => k_is)
    (case sup_UnknownKey => ks_is)
    (case mro_UnknownKey => k_is)
    (case hD_UnknownKey => k_is)
    (case xc_UnknownField => k_is)
    (case ref_UnknownField => first | rfl | decide +kernel | k_is)
    (case sa_UnknownField => k_is)
    (case eb_UnknownField => k_is)
    (case ty_UnknownField => k_is)
    (case kC_UnknownField => k_is)
    (case iC_UnknownField => k_is)
    (case tI_UnknownField => k_is)
    (case sv_UnknownField => k_is)
    (case no0_UnknownField => k_is)
    (case ga_UnknownField => k_is)
    (case gg_UnknownField => k_is)
    (case hd_UnknownField => k_is)
    (case hcl_UnknownField => k_is)
    (case hn_UnknownField => k_is)
    (case ht_UnknownField => k_is)
    (case hm_UnknownField => k_is)
    (case lf_UnknownField => k_is)
    (case cd_UnknownField => k_is)
    (case lc_UnknownField => k_is)
    (case v2_UnknownField => first | rfl | decide +kernel | k_is)
    (case fe_UnknownField => first | rfl | decide +kernel | k_is)
    (case lcc_UnknownField => k_is)
    (case sup_UnknownField => ks_is)
    (case mro_UnknownField => k_is)
    (case hD_UnknownField => k_is)
    (case mb_ElseputError => k_is)
    (case md_ElseputError => k_is)
    (case mt_ElseputError => k_is)
    (case ms_BadRow_ElseputError => k_is)
    (case ms_NoRow_ElseputError => k_is)
    (case ms_Taken_ElseputError => k_is)
    (case ms_UnknownField_ElseputError => k_is)
    (case ms_UnknownKey_ElseputError => k_is)
    (case kit_BadRow_BadRow => kit_is)
    (case kit_BadRow_Taken => kit_is)
    (case kit_BadRow_ValueError => kit_is)
    (case kit_BadRow_NoRow => kit_is)
    (case kit_BadRow_UnknownField => kit_is)
    (case kit_BadRow_UnknownKey => kit_is)
    (case kit_BadRow_UnknownName => kit_is)
    (case kit_NoRow_BadRow => kit_is)
    (case kit_NoRow_Taken => kit_is)
    (case kit_NoRow_ValueError => kit_is)
    (case kit_NoRow_NoRow => kit_is)
    (case kit_NoRow_UnknownField => kit_is)
    (case kit_NoRow_UnknownKey => kit_is)
    (case kit_NoRow_UnknownName => kit_is)
    (case kit_Taken_BadRow => kit_is)
    (case kit_Taken_Taken => kit_is)
    (case kit_Taken_ValueError => kit_is)
    (case kit_Taken_NoRow => kit_is)
    (case kit_Taken_UnknownField => kit_is)
    (case kit_Taken_UnknownKey => kit_is)
    (case kit_Taken_UnknownName => kit_is)
    (case kit_UnknownField_BadRow => kit_is)
    (case kit_UnknownField_Taken => kit_is)
    (case kit_UnknownField_ValueError => kit_is)
    (case kit_UnknownField_NoRow => kit_is)
    (case kit_UnknownField_UnknownField => kit_is)
    (case kit_UnknownField_UnknownKey => kit_is)
    (case kit_UnknownField_UnknownName => kit_is)
    (case kit_UnknownKey_BadRow => kit_is)
    (case kit_UnknownKey_Taken => kit_is)
    (case kit_UnknownKey_ValueError => kit_is)
    (case kit_UnknownKey_NoRow => kit_is)
    (case kit_UnknownKey_UnknownField => kit_is)
    (case kit_UnknownKey_UnknownKey => kit_is)
    (case kit_UnknownKey_UnknownName => kit_is)
