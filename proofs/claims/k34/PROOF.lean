import PyProof.Rows.All
import Wide.All
import OpenK.AllK
import Wide.FinOn
import HandS.ForMost
import HandS.Wide
import HandS.TupAny
import HandS.IsInst
import HandS.Flow
import HandS.Evl
import HandS.Walk
import HandS.ExcInit
import HandS.Nested
import HandS.FStr
import HandS.TryOnly
import HandS.TryMany
import HandS.ExcIs
import HandS.ExcField
import HandS.WordsExc
import HandS.RaiseMore
import KE.KExcSuper
import PyProof.StrOps2
import PyProof.Rows.ReprOcc
import PyProof.Rows.StrDigits
import PyProof.Rows.StrJoinMade
import HandS.ClsMeth
import HandS.Star
import HandS.Property
import HandS.New
import HandS.ExcOwn
import HandS.More
import HandS.Dict
import HandS.Small
import KE.KOpsOwn
import OpenK.KMeth
import KE.KExcIs
import HandS.Defaults
import HandS.Text
import HandS.Strs
import HandS.Conv
import HandS.Finally
import PyProof.StrLawsRepr
import HandS.TupSets
import KE.Datum
import HandS.MakeKwOnly
import HandS.IterVal
import KE.KOwnIter
import HandS.Iter
import KE.GoesMore
import HandS.SetFor
import KE.SortData
import KE.DataCmp
import HandS.SetKeys
import HandS.ListItems
import HandS.DictTup
import PyProof.DictMoreH
import KE.OsRunLaw
import HandS.Style
import PySem.Challenge.RW_elseput_k34_whole_lock_table_excludes
set_option Elab.async false
set_option linter.all false
set_option maxRecDepth 100000
/-! Own words over the hand layer: readings that compute on the values' shapes. -/
namespace El
open PySem PySem.Spec PyProof.Rows L2
section
variable {X : Cx}

theorem wk {e : Expr} {t t' : TE} (h : PE X e t) (i : ∀ σ H Q, t' σ H Q → t σ H Q) : PE X e t' :=
  ⟨fun pins s σ H Q I q => h.run pins s σ H Q I (i σ H Q q)⟩
theorem opwk {f : Value → Value → Sem Value} {r r' : R2} (h : OpR X f r) (i : ∀ x y H Q, r' x y H Q → r x y H Q) : OpR X f r' :=
  fun pins s σ H x y v u Q I rx ry q => h pins s σ H x y v u Q I rx ry (i x y H Q q)
theorem unwk {f : Value → Sem Value} {r r' : V → Hp → VK → Prop} (h : UnR X f r) (i : ∀ x H Q, r' x H Q → r x H Q) : UnR X f r' :=
  fun pins s σ H x v Q I rx q => h pins s σ H x v Q I rx (i x H Q q)
theorem cwk {f : Value} {r r' : List V → Hp → VK → Prop} (h : CallR X f r) (i : ∀ x H Q, r' x H Q → r x H Q) : CallR X f r' :=
  fun pins s σ H x v Q I rx q => h pins s σ H x v Q I rx (i x H Q q)
theorem ixwk {r r' : R2} (h : IxR X r) (i : ∀ x y H Q, r' x y H Q → r x y H Q) : IxR X r' :=
  fun a b pins s σ H x y v u Q I rx ry q => h a b pins s σ H x y v u Q I rx ry (i x y H Q q)
theorem slwk {r r' : V → Option Int → Option Int → Hp → VK → Prop} (h : SlR X r) (i : ∀ x a b H Q, r' x a b H Q → r x a b H Q) : SlR X r' :=
  fun pins s σ H x v vl vu lo hi sl Q I rx hs pl pu q => h pins s σ H x v vl vu lo hi sl Q I rx hs pl pu (i x lo hi H Q q)

/-! ### a name in its slot -/
def tV (i : Nat) : TE := fun σ H Q => match σ[i]? with | some (some v) => Q v H | _ => False
theorem v_ (i : Nat) {x : Str} {pos : Pos} (hN : X.N[i]? = some x := by rfl) (hv : Vis X.env.scope x := by first | exact Or.inl rfl | exact Or.inr (Or.inl rfl) | exact Or.inr (Or.inr rfl)) (hd : (x == ("__debug__" : Str)) = false := by decide)
    (hcd : (x == ("__classdict__" : Str)) = false := by decide) : PE X (.Name x pos) (tV i) :=
  wk (pv i hN hv hd hcd) fun σ H Q q => by
    unfold tV at q
    split at q
    · rename_i v e; exact ⟨v, e, q⟩
    · exact q.elim

/-! ### operators -/
def addM (K : PySem.W.Frag) : R2 := fun x y H Q => match x, y with
  | .int i, .int j => Q (.int (i + j)) H
  | .str i, .str j => i.length + j.length ≤ sizeLine ∧ Q (.str (i ++ j)) H
  | .ref a, .ref b => (∃ xs zs, H a = some (.lst xs) ∧ H b = some (.lst zs) ∧ xs.length + zs.length ≤ sizeLine ∧ ∀ p, H p = none → Q (.ref p) (upd H p (.lst (xs ++ zs)))) ∨ rCatT K (.ref a) (.ref b) H Q
  | _, _ => False
theorem op_addM : OpR X (binaryOp .Add) (addM X.K) := opwk (OpR.or op_add (OpR.or op_add_str (OpR.or op_cat op_catT))) fun x y H Q q => by
  unfold addM at q
  split at q
  · exact .inl ⟨_, _, rfl, rfl, q⟩
  · exact .inr (.inl ⟨_, _, rfl, rfl, q⟩)
  · rcases q with ⟨xs, zs, h1, h2, h3, h4⟩ | q
    · exact .inr (.inr (.inl ⟨_, _, xs, zs, rfl, rfl, h1, h2, h3, h4⟩))
    · exact .inr (.inr (.inr q))
  · exact q.elim
def subM : R2 := fun x y H Q => match x, y with
  | .int i, .int j => Q (.int (i - j)) H
  | _, _ => False
theorem op_subM : OpR X (binaryOp .Sub) subM := opwk op_sub fun x y H Q q => by
  unfold subM at q
  split at q
  · exact ⟨_, _, rfl, rfl, q⟩
  · exact q.elim
def mulM : R2 := fun x y H Q => match x, y with
  | .int i, .int j => (CMul i j ∨ CMulW i j) ∧ Q (.int (i * j)) H
  | .ref l, .int k => ∃ xs, H l = some (.lst xs) ∧ (-(2 ^ 63) ≤ k ∧ k < 2 ^ 63) ∧ xs.length * k.toNat ≤ sizeLine ∧ ∀ p, H p = none → Q (.ref p) (upd H p (.lst (List.replicate k.toNat xs).flatten))
  | _, _ => False
theorem op_mulM : OpR X (binaryOp .Mult) mulM := opwk (OpR.or op_mul (OpR.or op_mulW op_rep)) fun x y H Q q => by
  unfold mulM at q
  split at q
  · obtain ⟨h | h, q⟩ := q
    · exact .inl ⟨_, _, rfl, rfl, h, q⟩
    · exact .inr (.inl ⟨_, _, rfl, rfl, h, q⟩)
  · obtain ⟨xs, h1, h2, h3, h4⟩ := q
    exact .inr (.inr ⟨_, _, xs, rfl, rfl, h1, h2.1, h2.2, h3, h4⟩)
  · exact q.elim
def divM : R2 := fun x y H Q => match x, y with
  | .int i, .int j => (CDiv i j ∨ CDivW i j) ∧ Q (.int (i / j)) H
  | _, _ => False
theorem op_divM : OpR X (binaryOp .FloorDiv) divM := opwk (OpR.or op_fdiv op_fdivW) fun x y H Q q => by
  unfold divM at q
  split at q
  · obtain ⟨h | h, q⟩ := q
    · exact .inl ⟨_, _, rfl, rfl, h, q⟩
    · exact .inr ⟨_, _, rfl, rfl, h, q⟩
  · exact q.elim
def modM : R2 := fun x y H Q => match x, y with
  | .int i, .int j => 0 < j ∧ Q (.int (i % j)) H
  | _, _ => False
theorem op_modM : OpR X (binaryOp .Mod) modM := opwk op_mod fun x y H Q q => by
  unfold modM at q
  split at q
  · exact ⟨_, _, rfl, rfl, q.1, q.2⟩
  · exact q.elim
def powM : R2 := fun x y H Q => match x, y with
  | .int i, .int j => CPow i j ∧ Q (.int (i ^ j.toNat)) H
  | _, _ => False
theorem op_powM : OpR X (binaryOp .Pow) powM := opwk op_pow fun x y H Q q => by
  unfold powM at q
  split at q
  · exact ⟨_, _, rfl, rfl, q.1, q.2⟩
  · exact q.elim
def negM : V → Hp → VK → Prop := fun x H Q => match x with
  | .int i => Q (.int (-i)) H
  | _ => False
theorem un_negM : UnR X (unaryOp .USub) negM := unwk un_neg fun x H Q q => by
  unfold negM at q
  split at q
  · exact ⟨_, rfl, q⟩
  · exact q.elim

/-! ### comparisons -/
def cmpM (f : Int → Int → Bool) : R2 := fun x y H Q => match x, y with
  | .int i, .int j => Q (.bl (f i j)) H
  | _, _ => False
theorem cmpwk {f : Int → Int → Bool} {g : Value → Value → Sem Value} (h : OpR X g (rI0 fun i j => .bl (f i j))) : OpR X g (cmpM f) := opwk h fun x y H Q q => by
  unfold cmpM at q
  split at q
  · exact ⟨_, _, rfl, rfl, q⟩
  · exact q.elim
theorem op_ltM : OpR X (compareOp .Lt) (cmpM fun i j => decide (i < j)) := cmpwk op_lt
theorem op_leM : OpR X (compareOp .LtE) (cmpM fun i j => decide (i ≤ j)) := cmpwk op_le
theorem op_gtM : OpR X (compareOp .Gt) (cmpM fun i j => decide (j < i)) := cmpwk op_gt
theorem op_geM : OpR X (compareOp .GtE) (cmpM fun i j => decide (j ≤ i)) := cmpwk op_ge
/-- ==: of plain values by the values; else of data -/
def eqM (K : PySem.W.Frag) : R2 := fun x y H Q => match x, y with
  | .int i, .int j => Q (.bl (decide (i = j))) H
  | .str i, .str j => Q (.bl (decide (i = j))) H
  | .bl i, .bl j => Q (.bl (decide (i = j))) H
  | .non, .non => Q (.bl true) H
  | .non, .int _ => Q (.bl false) H
  | .int _, .non => Q (.bl false) H
  | .non, .str _ => Q (.bl false) H
  | .str _, .non => Q (.bl false) H
  | .non, .bl _ => Q (.bl false) H
  | .bl _, .non => Q (.bl false) H
  | .int _, .str _ => Q (.bl false) H
  | .str _, .int _ => Q (.bl false) H
  | .bl _, .str _ => Q (.bl false) H
  | .str _, .bl _ => Q (.bl false) H
  | x, y => rEqD K x y H Q
theorem op_eqM (hu : X.A.units + 64 < cLine) : OpR X (compareOp .Eq) (eqM X.K) := opwk (OpR.or op_eq (op_eqD hu)) fun x y H Q q => by
  unfold eqM at q
  split at q
  all_goals first
    | exact .inl ⟨rfl, by simpa using q⟩
    | exact .inr q
def neM (K : PySem.W.Frag) : R2 := fun x y H Q => match x, y with
  | .int i, .int j => Q (.bl (!decide (i = j))) H
  | .str i, .str j => Q (.bl (!decide (i = j))) H
  | .bl i, .bl j => Q (.bl (!decide (i = j))) H
  | .non, .non => Q (.bl false) H
  | .non, .int _ => Q (.bl true) H
  | .int _, .non => Q (.bl true) H
  | .non, .str _ => Q (.bl true) H
  | .str _, .non => Q (.bl true) H
  | .non, .bl _ => Q (.bl true) H
  | .bl _, .non => Q (.bl true) H
  | .int _, .str _ => Q (.bl true) H
  | .str _, .int _ => Q (.bl true) H
  | .bl _, .str _ => Q (.bl true) H
  | .str _, .bl _ => Q (.bl true) H
  | x, y => rNeD K x y H Q
theorem op_neM (hu : X.A.units + 64 < cLine) : OpR X (compareOp .NotEq) (neM X.K) := opwk (OpR.or op_ne (op_neD hu)) fun x y H Q q => by
  unfold neM at q
  split at q
  all_goals first
    | exact .inl ⟨rfl, by simpa using q⟩
    | exact .inr q
/-- is, is not: None, True, False -/
def isV (x y : V) : Bool := match x, y with
  | .non, .non => true
  | .bl a, .bl b => a == b
  | _, _ => false
def litV (y : V) : Bool := match y with | .non => true | .bl _ => true | _ => false
def isM : R2 := fun x y H Q => match litV y with | true => Q (.bl (isV x y)) H | false => False
def notM : R2 := fun x y H Q => match litV y with | true => Q (.bl (!isV x y)) H | false => False
theorem lit_cases {y : V} (h : litV y = true) : y = .non ∨ ∃ b, y = .bl b := by
  cases y with
  | non => exact .inl rfl
  | bl b => exact .inr ⟨b, rfl⟩
  | _ => exact absurd (show false = true from h) (by decide)
theorem is_other {A : Around} {E : Value → Shared → Prop} {M : Model} {x : V} {v : Value} {b : Bool} {s : Shared} {Q : Value → Shared → Prop} (rx : RelV x v) (h : Q (.bool (isV x (.bl b))) s) : wpAny M A (compareOp .Is v (.bool b)) Q E s := by
  cases x with
  | bl a =>
    cases rx
    by_cases e : a = b
    · subst e; exact wpAny_is_self rfl (by simpa [isV] using h)
    · exact wpAny_is_other rfl (fun z => e (Value.bool.inj z)) (by rw [show isV (.bl a) (.bl b) = false from beq_eq_false_iff_ne.mpr e] at h; exact h)
  | non => cases rx; exact wpAny_is_other rfl (by intro z; cases z) h
  | int i => obtain ⟨t, rfl⟩ := rx; exact wpAny_is_other rfl (by intro z; cases z) h
  | str i => obtain ⟨t, rfl⟩ := rx; exact wpAny_is_other rfl (by intro z; cases z) h
  | byt i => obtain ⟨t, rfl⟩ := rx; exact wpAny_is_other rfl (by intro z; cases z) h
  | flt i => obtain ⟨t, rfl⟩ := rx; exact wpAny_is_other rfl (by intro z; cases z) h
  | ref a => cases rx; exact wpAny_is_other rfl (by intro z; cases z) h
  | ty n => cases rx; exact wpAny_is_other rfl (by intro z; cases z) h
theorem isnot_other {A : Around} {E : Value → Shared → Prop} {M : Model} {x : V} {v : Value} {b : Bool} {s : Shared} {Q : Value → Shared → Prop} (rx : RelV x v) (h : Q (.bool (!isV x (.bl b))) s) : wpAny M A (compareOp .IsNot v (.bool b)) Q E s := by
  cases x with
  | bl a =>
    cases rx
    by_cases e : a = b
    · subst e; exact wpAny_isNot_self rfl (by simpa [isV] using h)
    · exact wpAny_isNot_other rfl (fun z => e (Value.bool.inj z)) (by rw [show isV (.bl a) (.bl b) = false from beq_eq_false_iff_ne.mpr e] at h; exact h)
  | non => cases rx; exact wpAny_isNot_other rfl (by intro z; cases z) h
  | int i => obtain ⟨t, rfl⟩ := rx; exact wpAny_isNot_other rfl (by intro z; cases z) h
  | str i => obtain ⟨t, rfl⟩ := rx; exact wpAny_isNot_other rfl (by intro z; cases z) h
  | byt i => obtain ⟨t, rfl⟩ := rx; exact wpAny_isNot_other rfl (by intro z; cases z) h
  | flt i => obtain ⟨t, rfl⟩ := rx; exact wpAny_isNot_other rfl (by intro z; cases z) h
  | ref a => cases rx; exact wpAny_isNot_other rfl (by intro z; cases z) h
  | ty n => cases rx; exact wpAny_isNot_other rfl (by intro z; cases z) h
theorem isV_non (x : V) : isV x .non = decide (x = .non) := by cases x <;> rfl
theorem op_isM : OpR X (compareOp .Is) isM := by
  intro pins s σ H x y v u Q I rx ry q
  unfold isM at q
  split at q
  · rename_i e
    rcases lit_cases e with rfl | ⟨b, rfl⟩
    · exact op_isN pins s σ H x .non v u Q I rx ry ⟨rfl, by rw [← isV_non]; exact q⟩
    · cases ry
      exact is_other rx ⟨.bl _, H, I, rfl, q⟩
  · exact q.elim
theorem op_isNotM : OpR X (compareOp .IsNot) notM := by
  intro pins s σ H x y v u Q I rx ry q
  unfold notM at q
  split at q
  · rename_i e
    rcases lit_cases e with rfl | ⟨b, rfl⟩
    · exact op_notN pins s σ H x .non v u Q I rx ry ⟨rfl, by rw [← isV_non]; exact q⟩
    · cases ry
      exact isnot_other rx ⟨.bl _, H, I, rfl, q⟩
  · exact q.elim
/-- in: a list or a tuple of plain things; a sign in a text -/
def inM (K : PySem.W.Frag) (neg : Bool) : R2 := fun x y H Q => match y with
  | .str z => ∃ c : Nat, x = .str ⟨#[c]⟩ ∧ Q (.bl (if neg then !decide (c ∈ z.cps.toList) else decide (c ∈ z.cps.toList))) H
  | .ref p => ∃ xs, (SqL K H p xs ∨ SqT K H p xs) ∧ flatV x = true ∧ xs.all flatV = true ∧ Q (.bl (if neg then !inV x xs else inV x xs)) H
  | _ => False
theorem op_inM : OpR X (compareOp .In) (inM X.K false) := opwk (OpR.or op_in_sign op_in_seq) fun x y H Q q => by
  unfold inM at q
  split at q
  · obtain ⟨c, e, q⟩ := q
    exact .inl ⟨c, _, e, rfl, q⟩
  · obtain ⟨xs, h1, h2, h3, q⟩ := q
    exact .inr ⟨_, xs, rfl, h1, h2, h3, q⟩
  · exact q.elim
theorem op_notInM : OpR X (compareOp .NotIn) (inM X.K true) := opwk (OpR.or op_notIn_sign op_notIn_seq) fun x y H Q q => by
  unfold inM at q
  split at q
  · obtain ⟨c, e, q⟩ := q
    exact .inl ⟨c, _, e, rfl, q⟩
  · obtain ⟨xs, h1, h2, h3, q⟩ := q
    exact .inr ⟨_, xs, rfl, h1, h2, h3, q⟩
  · exact q.elim

/-! ### tests -/
variable {a b : Expr} {rest : List Expr} {ta tb : TE} {pos : Pos}
def tTs (t : TE) : TT := fun σ H Q => t σ H fun x H' => match x with | .bl k => Q k H' | _ => False
theorem pt_c {op : CmpOp} {r : R2} (ho : OpR X (compareOp op) r) (ha : PE X a ta) (hb : PE X b tb) (hm : behindInMarks op b = false := by first | exact nomark _ | rfl) : PT X (.Compare a [op] [b] pos) (tTs (tOp r ta tb)) := by
  refine ⟨fun pins s σ H Q I h => ?_⟩
  refine wpAny_isTrue_Compare1 (thn (ha.run pins s σ H _ I h) fun v s1 ⟨x, H1, I1, r1, q1⟩ => thn (hb.run pins s1 σ H1 _ I1 q1) fun u s2 ⟨y, H2, I2, r2, q2⟩ =>
    thn (ho pins s2 σ H2 x y v u _ I2 r1 r2 q2) fun c s3 ⟨z, H3, I3, r3, q3⟩ => ?_) hm
  cases z with
  | bl k => cases r3; exact wpAny_truthy_bool ⟨H3, I3, q3⟩
  | _ => exact (show False from q3).elim
theorem pe_c {op : CmpOp} {r : R2} (ho : OpR X (compareOp op) r) (ha : PE X a ta) (hb : PE X b tb) (hm : behindInMarks op b = false := by first | exact nomark _ | rfl) : PE X (.Compare a [op] [b] pos) (tOp r ta tb) := pe_cmpR ho ha hb hm
/-- any value's truth -/
def tTr (K : PySem.W.Frag) (t : TE) : TT := fun σ H Q => t σ H fun x H' => match x with
  | .bl k => Q k H'
  | .non => Q false H'
  | .int i => Q (i != 0) H'
  | .str y => y.length ≤ sizeLine ∧ Q ((y.length : Int) != 0) H'
  | .ref p => (∃ xs, SqL K H' p xs ∧ Q (!xs.isEmpty) H') ∨ (∃ xs, SqT K H' p xs ∧ Q (!xs.isEmpty) H') ∨ ∃ kvs, H' p = some (.dK kvs) ∧ Q (!kvs.isEmpty) H'
  | _ => False
theorem pt_tr (ha : PE X a ta) (he : ∀ whole, isTrue a X.env whole = (do let v ← whole; standAt a.pos; holding [v] (truthy v)) := by intro _; rfl) : PT X a (tTr X.K ta) := by
  refine ⟨fun pins s σ H Q I h => ?_⟩
  refine isTrue_plain (thn (ha.run pins s σ H _ I h) fun v s1 ⟨x, H1, I1, r1, q1⟩ => tru_ok pins s1 σ H1 x v Q I1 r1 ?_) (he _)
  cases x with
  | bl k => exact ⟨k, rfl, q1⟩
  | non => exact ⟨false, rfl, q1⟩
  | int i => exact ⟨_, rfl, q1⟩
  | str y => exact ⟨_, ⟨q1.1, rfl⟩, q1.2⟩
  | ref p =>
    rcases (show (∃ xs, SqL X.K H1 p xs ∧ Q (!xs.isEmpty) H1) ∨ (∃ xs, SqT X.K H1 p xs ∧ Q (!xs.isEmpty) H1) ∨ ∃ kvs, H1 p = some (.dK kvs) ∧ Q (!kvs.isEmpty) H1 from q1) with ⟨xs, h, q⟩ | ⟨xs, h, q⟩ | ⟨xs, h, q⟩
    · exact ⟨_, .inl ⟨xs, h, rfl⟩, q⟩
    · exact ⟨_, .inr (.inl ⟨xs, h, rfl⟩), q⟩
    · exact ⟨_, .inr (.inr ⟨xs, h, rfl⟩), q⟩
  | _ => exact (show False from q1).elim
def tAndM (ta tb : TE) : TE := fun σ H Q => ta σ H fun x H1 => match x with | .bl c => (if c = true then tb σ H1 Q else Q (.bl false) H1) | _ => False
def tOrM (ta tb : TE) : TE := fun σ H Q => ta σ H fun x H1 => match x with | .bl c => (if c = true then Q (.bl true) H1 else tb σ H1 Q) | _ => False
def tNotM (ta : TE) : TE := fun σ H Q => ta σ H fun x H1 => match x with | .bl c => Q (.bl (!c)) H1 | _ => False
theorem pe_andM (ha : PE X a ta) (hb : PE X (.BoolOp .And (b :: rest) pos) tb) : PE X (.BoolOp .And (a :: b :: rest) pos) (tAndM ta tb) := by
  refine ⟨fun pins s σ H Q I h => ?_⟩
  refine BoolOp_and (thn (ha.run pins s σ H _ I h) fun v s1 ⟨x, H1, I1, r1, q1⟩ => ?_)
  cases x with
  | bl c =>
    cases r1
    refine wpAny_truthy_bool ?_
    cases c with
    | true => exact hb.run pins s1 σ H1 Q I1 q1
    | false => exact ⟨.bl false, H1, I1, rfl, q1⟩
  | _ => exact (show False from q1).elim
theorem pe_orM (ha : PE X a ta) (hb : PE X (.BoolOp .Or (b :: rest) pos) tb) : PE X (.BoolOp .Or (a :: b :: rest) pos) (tOrM ta tb) := by
  refine ⟨fun pins s σ H Q I h => ?_⟩
  refine BoolOp_or (thn (ha.run pins s σ H _ I h) fun v s1 ⟨x, H1, I1, r1, q1⟩ => ?_)
  cases x with
  | bl c =>
    cases r1
    refine wpAny_truthy_bool ?_
    cases c with
    | false => exact hb.run pins s1 σ H1 Q I1 q1
    | true => exact ⟨.bl true, H1, I1, rfl, q1⟩
  | _ => exact (show False from q1).elim
theorem pe_notM (ha : PE X a ta) : PE X (.UnaryOp .Not a pos) (tNotM ta) := by
  refine ⟨fun pins s σ H Q I h => ?_⟩
  refine UnaryOp_ (thn (ha.run pins s σ H _ I h) fun v s1 ⟨x, H1, I1, r1, q1⟩ => ?_)
  cases x with
  | bl c => cases r1; exact not_of (wpAny_truthy_bool ⟨.bl (!c), H1, I1, rfl, q1⟩)
  | _ => exact (show False from q1).elim

/-! ### subscripts, slices, calls of built-ins -/
def ixM (K : PySem.W.Frag) : R2 := fun x y H Q => match x, y with
  | .str z, .int i => z.length ≤ sizeLine ∧ ∃ c, atI z.cps.toList i = some c ∧ Q (.str ⟨#[c]⟩) H
  | .ref p, .int i => ∃ xs, (SqL K H p xs ∨ SqT K H p xs) ∧ ∃ v, atI xs i = some v ∧ Q v H
  | _, _ => False
theorem ix_M : IxR X (ixM X.K) := ixwk ix_seq fun x y H Q q => by
  unfold ixM at q
  split at q
  · obtain ⟨h, c, e, q⟩ := q
    exact .inr (.inr ⟨_, _, c, rfl, rfl, h, e, q⟩)
  · obtain ⟨xs, h | h, v, e, q⟩ := q
    · exact .inl ⟨_, xs, _, v, rfl, rfl, h, e, q⟩
    · exact .inr (.inl ⟨_, xs, _, v, rfl, rfl, h, e, q⟩)
  · exact q.elim
theorem e_ix (ha : PE X a ta) (hb : PE X b tb) (hs : PlainIx b := by intro _ _; rfl) : PE X (.Subscript a b pos) (tOp (ixM X.K) ta tb) := pe_ix ix_M ha hb hs
def slM (K : PySem.W.Frag) : V → Option Int → Option Int → Hp → VK → Prop := fun x lo hi H Q => match x with
  | .str z => z.length ≤ sizeLine ∧ Q (.str (cutS z lo hi)) H
  | .ref p => (∃ xs, SqL K H p xs ∧ ∀ q, H q = none → Q (.ref q) (upd H q (.lst (cutV xs lo hi)))) ∨ rSlT K (.ref p) lo hi H Q
  | _ => False
theorem sl_M : SlR X (slM X.K) := slwk (SlR.or sl_str (SlR.or sl_list sl_tup)) fun x lo hi H Q q => by
  unfold slM at q
  split at q
  · exact .inl ⟨_, rfl, q.1, q.2⟩
  · rcases q with ⟨xs, h, q⟩ | q
    · exact .inr (.inl ⟨_, xs, rfl, h, q⟩)
    · exact .inr (.inr q)
  · exact q.elim
def intM : List V → Hp → VK → Prop := fun xs H Q => match xs with
  | [.int i] => Q (.int i) H
  | [.bl k] => Q (.int (if k then 1 else 0)) H
  | [.str a] => ∃ n, PySem.intText? a = some n ∧ a.length ≤ 640 ∧ Q (.int n) H
  | _ => False
theorem call_intM : CallR X (.type "int") intM := cwk (CallR.or call_int1 call_int_str) fun xs H Q q => by
  unfold intM at q
  split at q
  · exact .inl (.inl ⟨_, rfl, q⟩)
  · exact .inl (.inr ⟨_, rfl, q⟩)
  · obtain ⟨n, h1, h2, q⟩ := q
    exact .inr ⟨_, n, rfl, h1, h2, q⟩
  · exact q.elim
def lenM (K : PySem.W.Frag) : List V → Hp → VK → Prop := fun xs H Q => match xs with
  | [.str z] => z.length ≤ sizeLine ∧ Q (.int z.length) H
  | [.ref p] => (∃ xs, (SqL K H p xs ∨ SqT K H p xs) ∧ Q (.int xs.length) H) ∨ ∃ kvs, H p = some (.dK kvs) ∧ Q (.int kvs.length) H
  | _ => False
theorem call_lenM : CallR X (.builtin "len") (lenM X.K) := cwk (CallR.or call_len_str (CallR.or call_len_seq call_lenD)) fun xs H Q q => by
  unfold lenM at q
  split at q
  · exact .inl ⟨_, rfl, q.1, q.2⟩
  · rcases q with ⟨xs, h, q⟩ | ⟨kvs, h, q⟩
    · exact .inr (.inl ⟨_, xs, rfl, h, q⟩)
    · exact .inr (.inr ⟨_, kvs, rfl, h, q⟩)
  · exact q.elim

/-! ### the same, the written part named -/
theorem addK (K : PySem.W.Frag) (h : X.K = K := by rfl) : OpR X (binaryOp .Add) (addM K) := h ▸ op_addM
theorem eqK (K : PySem.W.Frag) (hu : X.A.units + 64 < cLine) (h : X.K = K := by rfl) : OpR X (compareOp .Eq) (eqM K) := h ▸ op_eqM hu
theorem neK (K : PySem.W.Frag) (hu : X.A.units + 64 < cLine) (h : X.K = K := by rfl) : OpR X (compareOp .NotEq) (neM K) := h ▸ op_neM hu
theorem inK (K : PySem.W.Frag) (h : X.K = K := by rfl) : OpR X (compareOp .In) (inM K false) := h ▸ op_inM
theorem notInK (K : PySem.W.Frag) (h : X.K = K := by rfl) : OpR X (compareOp .NotIn) (inM K true) := h ▸ op_notInM
theorem pt_t (K : PySem.W.Frag) (ha : PE X a ta) (he : ∀ whole, isTrue a X.env whole = (do let v ← whole; standAt a.pos; holding [v] (truthy v)) := by intro _; rfl) (h : X.K = K := by rfl) : PT X a (tTr K ta) := h ▸ pt_tr ha he
theorem e_x (K : PySem.W.Frag) (ha : PE X a ta) (hb : PE X b tb) (hs : PlainIx b := by intro _ _; rfl) (h : X.K = K := by rfl) : PE X (.Subscript a b pos) (tOp (ixM K) ta tb) := h ▸ e_ix ha hb hs
theorem slK (K : PySem.W.Frag) (h : X.K = K := by rfl) : SlR X (slM K) := h ▸ sl_M
theorem lenK (K : PySem.W.Frag) (h : X.K = K := by rfl) : CallR X (.builtin "len") (lenM K) := h ▸ call_lenM
theorem listK (K : PySem.W.Frag) (h : X.K = K := by rfl) : CallR X (.type "list") (fun xs H Q => ∃ p ys, xs = [.ref p] ∧ (SqL K H p ys ∨ SqT K H p ys) ∧ ∀ l, H l = none → Q (.ref l) (upd H l (.lst ys))) := h ▸ call_list_of
theorem tupleK (K : PySem.W.Frag) (h : X.K = K := by rfl) : CallR X (.type "tuple") (fun xs H Q => ∃ p ys, xs = [.ref p] ∧ ((SqL K H p ys ∧ ∀ l, H l = none → Q (.ref l) (upd H l (.tup ys))) ∨ (SqT K H p ys ∧ Q (.ref p) H))) := h ▸ call_tuple_of
theorem isiK (K : PySem.W.Frag) (h : X.K = K := by rfl) : CallR X (.builtin "isinstance") (rIsi K) := h ▸ call_isi
theorem allK (K : PySem.W.Frag) (hc : X.calm = true) (h : X.K = K := by rfl) : CallR X (.builtin "all") (rAll K) := h ▸ cr_all hc
theorem anyK (K : PySem.W.Frag) (hc : X.calm = true) (h : X.K = K := by rfl) : CallR X (.builtin "any") (rAny K) := h ▸ cr_any hc
theorem sortedK (K : PySem.W.Frag) (h : X.K = K := by rfl) : CallR X (.builtin "sorted") (rSorted K) := h ▸ cr_sorted
theorem sumK (K : PySem.W.Frag) (hc : X.calm = true) (h : X.K = K := by rfl) : CallR X (.builtin "sum") (rSum K) := h ▸ cr_sum hc

/-! ### calls of own defs -/
structure Cal (P : Program) (w : World) (K : PySem.W.Frag) (mg : Str → Option Value) (base : Heap) (CX : CXT) (k : Nat) (x : Str) (f : Addr) (fd : FuncData) (ps : List Str) (sp : Sp) : Prop where
  G : FnOk P w K mg base CX k f fd ps sp
  b : Binds K fd ps []
  kp : PySem.W.keepIn K (.ref f) = true
  m : mg x = some (.ref f)
end
end El

set_option Elab.async false
set_option linter.all false
set_option maxRecDepth 100000
set_option maxHeartbeats 4000000
/-! Own words: an own exception's first row super().__init__(e), the rest of its __init__ by the layer. -/
namespace El
open PySem PySem.Spec PyProof.Rows L2 NdefX
abbrev supRow (p0 p1 p2 p3 p4 : Pos) (e1 : Expr) : Stmt := .Expr (.Call (.Attribute (.Call (.Name "super" p0) [] [] p1) "__init__" p2) [e1] [] p3) p4
abbrev supNF (name qual : Str) (params : Arguments) (body : List Stmt) (scope : Scope) (cc cda : Addr) : NF := ⟨name, qual, params, body, scope, [("__class__", cc)], cda⟩

theorem inv_unpin {X : Cx} {pins : List (Addr × Obj)} {σ : L2.St} {H : Hp} {s : Shared} (I : Inv X pins σ H s) : Inv X [] σ H s := I.pins_of fun p hp => absurd hp (by simp)

theorem fn_super {P : Program} {w : World} {K : PySem.W.Frag} {mg : Str → Option Value} {base : Heap} {CX : CXT} {k : Nat} {f cc cda D : Addr} {name qual : Str} {params : Arguments} {scope : Scope} {doc pm ct oc ccl cl : Value} {od cdd cld : Option Addr} {osl ccs csl : Array (Option Value)} {vs0 : Array Value} {file : Str} {tf : Tok} {cdD : ClassData}
    {N ps : List Str} {sp : Sp} {e1 : Expr} {rest : List Stmt} {p0 p1 p2 p3 p4 : Pos} {ar : Arg}
    (lk : K.lookup f = some ⟨oc, od, .func (PySem.W.fnX name qual params (supRow p0 p1 p2 p3 p4 e1 :: rest) scope [("__class__", cc)] .none .none doc pm none (.ref cda) ct), osl⟩)
    (hcd : PySem.W.codeIn K (.ref cda) qual = true) (S : NScope N ps ["__class__"] scope)
    (hcode : K.lookup cda = some ⟨ccl, cdd, .fields vs0, ccs⟩) (hvs : vs0[2]? = some (.str file tf)) (hfile : ((P.main.file : Str) == file) = true)
    (hcell : K.lookup cc = some ⟨cl, cld, .cell (some (.ref D)), csl⟩) (hD : PySem.W.clsIn K D = some cdD) (hsuper : mg "super" = none)
    (hop : PySem.W.nsIn K PySem.cStatics "thirdparty.any" = some none)
    (hp : (params.posonlyargs ++ params.args).head? = some ar) (hps : ps[0]? = some ar.arg)
    (hks : scope.names.lookup ("super" : Str) = some .globalImplicit) (htop : (P.main.scope.names.lookup ("super" : Str)).isSome = false)
    (hboot : bootBuiltins "super" = some (.type "super"))
    (len : ∀ vs H Q E, sp vs H Q E → vs.length = ps.length)
    (hbody : ∀ (A : Around) (outer : List Env) (s : Shared) (H : Hp) (vs : List V) (Q : VK) (E : XK), Room k (A.deeper (envF (supNF name qual params (supRow p0 p1 p2 p3 p4 e1 :: rest) scope cc cda) f s.heap.objs.size)) → sp vs H Q E →
      ∃ (a C : Addr) (ta : TA) (t : TS), vs[0]? = some (.ref a) ∧ H a = some (exo a C none) ∧ OexC K C ∧ PySem.W.mroIn K C (.ref D) = some true ∧ PySem.W.ks_superIn K C D "__init__" = some (some (.builtin "ValueError.__init__")) ∧ PySem.W.subIn K (.ref C) (.type "ValueError") = some true ∧
        PA (ncx CX P w K mg base N (supNF name qual params (supRow p0 p1 p2 p3 p4 e1 :: rest) scope cc cda) f A outer s H E) [e1] ta ∧
        PSs (ncx CX P w K mg base N (supNF name qual params (supRow p0 p1 p2 p3 p4 e1 :: rest) scope cc cda) f A outer s H E) rest t ∧
        ta (startF N vs [none]) H fun ws H1 => H1 a = some (exo a C none) ∧ ws.length ≤ 1000 ∧ t { nx := fun _ H' => Q .non H', rt := Q } (startF N vs [none]) H1)
    (hst : ∀ env : Env, starEach [e1] env = (false, eval e1 env) :: starEach [] env) {pl : Env → Sem Bool}
    (he : ∀ env : Env, eval (.Call (.Attribute (.Call (.Name "super" p0) [] [] p1) "__init__" p2) [e1] [] p3) env = (do
      let ov ← attributeBase (.Call (.Name "super" p0) [] [] p1) "__init__" env (eval (.Call (.Name "super" p0) [] [] p1) env)
      standAt p2.atName
      let (f, first) ← holding [ov] (getMethod ov "__init__" (pl env))
      callWith p3 f first (backTo p3 (starEach [e1] env)) []))
    (hsw : ∀ env : Env, swapsWith (.Call (.Attribute (.Call (.Name "super" p0) [] [] p1) "__init__" p2) [e1] [] p3) none p4.line env = pure false) :
    FnOk P w K mg base CX (k + 1) f (PySem.W.fnX name qual params (supRow p0 p1 p2 p3 p4 e1 :: rest) scope [("__class__", cc)] .none .none doc pm none (.ref cda) ct) ps sp := by
  refine ⟨len, fun A outer s H args us vs Q E hr e0 hb r hsp => ?_⟩
  have hl := len _ _ _ _ hsp
  have KX : K.In s.heap := e0.mod.kin.keeps fun b o e => (e0.bs b o e).1
  have lim : s.heap.NoLimit := e0.mod.nolimit.keeps fun b o e => (e0.bs b o e).1
  have hkc : scope.names.lookup ("__class__" : Str) = some .free := S.frk _ (List.mem_singleton.mpr rfl)
  refine PySem.ks_codeAny_call_defAt (fd := PySem.W.fnX name qual params (supRow p0 p1 p2 p3 p4 e1 :: rest) scope [("__class__", cc)] .none .none doc pm none (.ref cda) ct) (body := supRow p0 p1 p2 p3 p4 e1 :: rest) (binds := ps.zip us) hr.depth (KX _ _ lk) rfl lim
    (PySem.W.codeRec_of KX hcd) rfl hb S.nocell (fun ⟨n, _⟩ hy => S.par n (List.of_mem_zip hy).1) (fun h₁ hns kp => ?_) S.co S.gen S.kind
  obtain ⟨a, C, ta, t, hv0, hexo, TC, hmro, hsup, hsubV, hPA, hPS, hq⟩ := hbody A outer s H vs Q E (hr.deeper _) hsp
  have bcc : base.get? cc = some ⟨cl, cld, .cell (some (.ref D)), csl⟩ := e0.mod.kin _ _ hcell
  have CC : CellsAt [(("__class__" : Str), cc)] ["__class__"] [none] s.heap H := by
    refine ⟨rfl, fun y c e => ?_, fun x y c e1 e2 => ?_, fun i y hi => ?_⟩
    · have : c = cc := by
        simp only [List.lookup] at e
        split at e
        · exact (Option.some.inj e).symm
        · cases e
      subst this
      exact ⟨(e0.bs _ _ bcc).2, _, _, KX _ _ hcell, rfl⟩
    · simp only [List.lookup] at e1 e2
      split at e1
      · rename_i h1
        split at e2
        · rename_i h2
          rw [beq_iff_eq] at h1 h2
          rw [h1, h2]
        · cases e2
      · cases e1
    · have : i = 0 ∧ y = "__class__" := by
        cases i with
        | zero => simp at hi; exact ⟨rfl, hi.symm⟩
        | succ i => simp at hi
      obtain ⟨rfl, rfl⟩ := this
      exact ⟨cc, by simp [List.lookup], fun v hv => by simp at hv⟩
  have I : Inv (ncx CX P w K mg base N (supNF name qual params (supRow p0 p1 p2 p3 p4 e1 :: rest) scope cc cda) f A outer s H E) [] (startF N vs [none]) H { s with heap := h₁, toks := s.toks + (ps.zip us).length } :=
    inv_startN (F := supNF name qual params (supRow p0 p1 p2 p3 p4 e1 :: rest) scope cc cda) S hr.hd e0 hl r CC hns kp
  have KX1 : K.In h₁ := fun b o e => kp b o (KX b o e)
  obtain ⟨oD, hD1, hD2⟩ : ∃ oD, h₁.get? D = some oD ∧ oD.data = .cls cdD := by
    unfold PySem.W.clsIn at hD
    split at hD
    · rename_i c d cd' sl ho
      cases hD
      exact ⟨_, KX1 _ _ ho, rfl⟩
    · cases hD
  have ndP : ps.Nodup := by
    have q := S.nd.sublist (List.take_sublist (ps.length + 1) N)
    rw [show N.take (ps.length + 1) = ps ++ [("__class__" : Str)] from S.pre] at q
    exact (List.nodup_append.mp q).1
  obtain ⟨u0, hu0, ru0⟩ := r.get hv0
  obtain rfl : u0 = Value.ref a := ru0
  obtain ⟨t1, hga⟩ := exo_at I.hok hexo
  have hint : interactive (envF (supNF name qual params (supRow p0 p1 p2 p3 p4 e1 :: rest) scope cc cda) f s.heap.objs.size) = false := by
    have hk := S.kind
    unfold interactive
    simp [Env.blockKind, hk]
  refine PySem.ks_wpAt_execs_cons (PySem.ks_wpAt_Expr_any (PySem.ks_wpAt_MethodCall (PySem.ks_wpAt_super_base (ar := ar) hks hkc (by decide +kernel) rfl (KX1 _ _ lk) rfl hp rfl (KX1 _ _ hcode) rfl hvs hfile htop ?_) (he _)) hint (hsw _))
  obtain ⟨mb, hb1, hb2⟩ := e0.mod.blt
  have kb : ∀ b o, base.get? b = some o → h₁.get? b = some o := fun b o e => kp b o (e0.bs b o e).1
  refine PySem.W.ks_loadName_global S.kind hks (Calls.loadGlobal_builtin (e0.mod.glob.keeps kb) hsuper (hb1.keeps kb) ((hb2 _ (by decide)).trans hboot) ⟨rfl, ?_⟩)
  refine wpAny_loadName_free S.kind hkc rfl ⟨_, KX1 _ _ hcell, rfl⟩ ?_
  refine wpAny_loadName_local S.kind (S.par _ (List.mem_of_getElem? hps)) hns (zip_look ndP hps hu0) ?_
  refine PySem.ks_wpAny_isType_cls hD1 hD2 ⟨rfl, ?_⟩
  refine PySem.ks_wpAny_call_super hD1 hD2 hga rfl (fun c e => by cases e) (PySem.W.looks_mroIn KX1 hmro) (fun h2 eso k2 => ?_)
  have I2 : Inv (ncx CX P w K mg base N (supNF name qual params (supRow p0 p1 p2 p3 p4 e1 :: rest) scope cc cda) f A outer s H E) [] (startF N vs [none]) H { s with heap := h2, toks := s.toks + (ps.zip us).length } := I.kept k2
  have KX2 : K.In h2 := fun b o e => k2 b o (KX1 b o e)
  cases hcC : PySem.W.clsIn K C with
  | none => unfold PySem.W.ks_superIn at hsup; rw [hcC] at hsup; cases hsup
  | some cd =>
  unfold PySem.W.ks_superIn at hsup
  rw [hcC] at hsup
  have hga2 := k2 _ _ hga
  have INS : PySem.W.InstAt h2 a { cls := .ref C, dict := none, data := .fields #[.ref t1, .none, .none, .none, .bool false, .none] } C none := ⟨hga2, rfl, rfl, trivial⟩
  have hI : PySem.W.Looks (model P w) h2 (isInstance (.ref a) (.type "ValueError")) true := INS.type.andThen (PySem.W.looks_subIn KX2 hsubV)
  refine PySem.W.kxs_getMethod PySem.W.kxs_ValueError eso (PySem.W.looks_opaque KX2 hop) (l₀ := cd.mro) (fun A Q E s k q => wpAny_bind ((PySem.W.looks_clsIn KX2 hcC) A _ E s k (wpAny_pure q))) rfl KX2 hsup hI (PySem.W.ks_ne KX2 INS hcC) (by decide +kernel) ?_
  have I3 : Inv (ncx CX P w K mg base N (supNF name qual params (supRow p0 p1 p2 p3 p4 e1 :: rest) scope cc cda) f A outer s H E) [] (startF N vs [none]) H { s with heap := h2.push (PySem.W.kxs_mw "ValueError.__init__" a), toks := s.toks + (ps.zip us).length + 1 } := I2.kept fun b o e => Heap.get?_push_of_some _ e
  have hu : (h2.push (PySem.W.kxs_mw "ValueError.__init__" a)).get? h2.objs.size = some (PySem.W.kxs_mw "ValueError.__init__" a) := Heap.get?_push_at rfl rfl
  have hfree : H h2.objs.size = none := I2.hok.fresh (Nat.le_refl _)
  have I4 : Inv (ncx CX P w K mg base N (supNF name qual params (supRow p0 p1 p2 p3 p4 e1 :: rest) scope cc cda) f A outer s H E) [(h2.objs.size, PySem.W.kxs_mw "ValueError.__init__" a)] (startF N vs [none]) H { s with heap := h2.push (PySem.W.kxs_mw "ValueError.__init__" a), toks := s.toks + (ps.zip us).length + 1 } :=
    I3.pins_of fun p hp => by
      obtain rfl := List.mem_singleton.mp hp
      exact ⟨hu, hfree, fun z => absurd I2.lt (by rw [← z]; exact Nat.lt_irrefl _), I2.nofs (Nat.le_refl _), fun v z => by cases z⟩
  show wpAny _ _ (callWith p3 (.ref h2.objs.size) [] (backTo p3 (starEach [e1] _)) []) _ _ _
  rw [hst]
  refine PySem.W.kxs_callWith (i := "ValueError.__init__") (x := a) rfl (Calls.evalArgs_plain ?_)
  have hrun := hPA.run p3 _ _ _ _ _ I4 hq
  rw [hst] at hrun
  refine thn hrun fun us' s4 ⟨ws, H1, I5, r5, hexo1, hws, hq1⟩ => ?_
  have hu5 : s4.heap.get? h2.objs.size = some (PySem.W.kxs_mw "ValueError.__init__" a) := (I5.pin (h2.objs.size, PySem.W.kxs_mw "ValueError.__init__" a) (List.mem_append_right _ (List.mem_singleton.mpr rfl))).1
  refine ⟨hu5, ?_⟩
  obtain ⟨nm, q9, N9, bs, bm, sn, sub, ab, col, dd, k0, k1, k2', k3, k5, hC, hbm⟩ := TC.cls
  obtain ⟨t2, hga5⟩ := exo_at I5.hok hexo1
  have hC5 := I5.kIn _ _ hC
  have hus : us'.length ≤ sizeLine := by
    rw [← Paired.length r5, sizeLine_eq]
    omega
  obtain ⟨h5, g5, d5, tk5, os5⟩ := s4
  show wpAny _ _ (call (.ref h2.objs.size) ([] ++ us')) _ _ _
  rw [List.nil_append]
  refine wpAny_call (codeAny_of_tree ?_)
  show wpAny _ _ (callAny (.ref h2.objs.size) ⟨us', []⟩) _ _ _
  simp only [callAny]
  refine wpAny_bind (wpAny_load hu5 ?_)
  simp only [PySem.W.kxs_mw, show (Value.type "method-wrapper" == Value.type "method" || Value.type "method-wrapper" == Value.type "builtin_function_or_method" || Value.type "method-wrapper" == Value.type "method-wrapper") = true by decide, if_true]
  refine PySem.W.KFB.if_so (by decide) ?_
  refine wpAny_bind (PySem.W.check_bound_init PySem.F.excBase_ValueError.toExcCallFacts hC5 hga5 rfl ?_)
  refine wpAny_bind (wpAny_pure (wpAny_pure ?_))
  refine ⟨plainId_quiet PySem.F.excBase_ValueError.init.plain _, codeAny_builtin PySem.F.excBase_ValueError.initEntry ?_⟩
  refine PySem.W.exc_init_tree (cls := .ref C) (t0 := t2) (dv := none) (c2 := .none) (c3 := .none) (b4 := .bool false) hga5 hus (fun h6 k6 e6 _ => ?_)
  have J := I5.write (t' := tk5) (x := a) (e := a) (o := exo a C none) (by rw [hexo1]; exact True.intro) (.inl rfl) k6 ⟨_, e6⟩ (exo_ok e6)
  have eu : upd H1 a (exo a C none) = H1 := by
    funext b
    by_cases hb : b = a
    · rw [hb, upd_same, hexo1]
    · rw [upd_ne hb]
  rw [eu] at J
  have J0 := inv_unpin J
  refine wpAt_of_wpAny ?_
  refine wpAny_mono (hPS.run [] _ _ H1 _ J0 hq1) (fun fl s' hs => ?_) fun e s' hs => hs
  have fin : ∀ {σ' : L2.St} {H' : Hp} {v : V} {u : Value}, Inv (ncx CX P w K mg base N (supNF name qual params (supRow p0 p1 p2 p3 p4 e1 :: rest) scope cc cda) f A outer s H E) [] σ' H' s' → L2.RelV v u → Q v H' → CE outer P w H s Q u s' :=
    fun {σ' H' v u} J rv q => ⟨v, H', J.os, J.bare, J.base, J.hok, rv, q⟩
  cases fl with
  | ret u =>
    obtain ⟨v, σ', H', J, rv, q⟩ := hs
    exact fin J rv q
  | next =>
    obtain ⟨σ', H', J, q⟩ := hs
    exact fin (v := V.non) (u := Value.none) J rfl q
  | brk =>
    obtain ⟨_, _, _, q⟩ := hs
    exact False.elim q
  | cont =>
    obtain ⟨_, _, _, q⟩ := hs
    exact False.elim q
end El

set_option Elab.async false
set_option linter.all false
set_option maxRecDepth 100000
/-! Own words: a text times an int, the text of an int. -/
namespace El
open PySem PySem.Spec PyProof.Rows L2
def repS (z : Str) (k : Int) : Str := if k < 1 then Str.empty else if (k == 1 || z.length == 0) = true then z else ⟨(List.replicate k.toNat z.cps).foldl (· ++ ·) #[]⟩
theorem foldl_cps : ∀ (n : Nat) (a b : Array Nat), ((List.replicate n b).foldl (· ++ ·) a).toList = a.toList ++ (List.replicate n b.toList).flatten
  | 0, a, b => by simp
  | n + 1, a, b => by
    rw [List.replicate_succ, List.foldl_cons, foldl_cps n, Array.toList_append, List.replicate_succ, List.flatten_cons, List.append_assoc]
theorem repS_cps (z : Str) (k : Int) : (repS z k).cps.toList = (List.replicate k.toNat z.cps.toList).flatten := by
  unfold repS
  split
  · rename_i h
    rw [show k.toNat = 0 by omega]
    rfl
  · split
    · rename_i h1 h
      rw [Bool.or_eq_true, beq_iff_eq, beq_iff_eq] at h
      rcases h with h | h
      · subst h
        simp
      · have : z.cps.toList = [] := List.eq_nil_of_length_eq_zero (by rw [Array.length_toList]; exact h)
        rw [this]
        simp
    · rw [foldl_cps]
      rfl
theorem repS1 {c : Nat} {k : Int} : (repS ⟨#[c]⟩ k).cps.toList = List.replicate k.toNat c := by
  rw [repS_cps]
  simp
theorem op_mulS {X : Cx} : OpR X (binaryOp .Mult) (fun x y H Q => ∃ (z : Str) (k : Int), x = .str z ∧ y = .int k ∧ k ≤ 1000 ∧ -1000 ≤ k ∧ z.length ≤ 1000 ∧ Q (.str (repS z k)) H) := by
  intro pins s σ H x y v u Q I rx ry h
  obtain ⟨z, k, rfl, rfl, h1, h2, h3, q⟩ := h
  obtain ⟨t, rfl⟩ := rx
  obtain ⟨t', rfl⟩ := ry
  have e : (2 : Int) ^ 63 = 9223372036854775808 := by decide
  refine PySem.P.mul_str ?_ (fun n1 n2 => ?_) (fun n1 n2 => ?_) ?_
  · rw [e, decide_eq_false (by omega), decide_eq_false (by omega)]
    rfl
  · rw [e]
    have : ((9223372036854775808 : Int) - 1) / 1000 ≤ (9223372036854775808 - 1) / k := by
      refine Int.le_ediv_of_mul_le (by omega) ?_
      have : (9223372036854775808 - 1) / 1000 * k ≤ (9223372036854775808 - 1) / 1000 * 1000 := Int.mul_le_mul_of_nonneg_left h1 (by decide)
      refine Int.le_trans this (by decide)
    have : (1000 : Int) ≤ (9223372036854775808 - 1) / 1000 := by decide
    omega
  · have : z.length * k.toNat ≤ 1000 * 1000 := Nat.mul_le_mul h3 (by omega)
    show decide _ = false
    refine decide_eq_false ?_
    rw [sizeLine_eq]
    omega
  · unfold repS at q
    split
    · rename_i c
      rw [if_pos c] at q
      exact ⟨by decide, .str _, H, I.tok _, ⟨_, rfl⟩, q⟩
    · rename_i c
      rw [if_neg c] at q
      split
      · rename_i c2
        rw [if_pos c2] at q
        exact ⟨.str _, H, I, ⟨_, rfl⟩, q⟩
      · rename_i c2
        rw [if_neg c2] at q
        refine ⟨?_, .str _, H, I.tok _, ⟨_, rfl⟩, q⟩
        have e2 := foldl_cps k.toNat #[] z.cps
        have e3 : ((List.replicate k.toNat z.cps).foldl (· ++ ·) #[]).size = k.toNat * z.length := by
          rw [← Array.length_toList, e2, List.length_append]
          simp
          rfl
        show ((List.replicate k.toNat z.cps).foldl (· ++ ·) #[]).size ≤ sizeLine
        rw [e3, sizeLine_eq]
        have : k.toNat * z.length ≤ 1000 * 1000 := Nat.mul_le_mul (by omega) h3
        omega
/-- times, of texts too -/
def mulSM : R2 := fun x y H Q => match x, y with
  | .str z, .int k => k ≤ 1000 ∧ -1000 ≤ k ∧ z.length ≤ 1000 ∧ Q (.str (repS z k)) H
  | _, _ => mulM x y H Q
theorem op_mulSM {X : Cx} : OpR X (binaryOp .Mult) mulSM := opwk (OpR.or op_mulS op_mulM) fun x y H Q q => by
  unfold mulSM at q
  split at q
  · exact .inl ⟨_, _, rfl, rfl, q⟩
  · exact .inr q
/-- the signs of a number's text -/
theorem int_digits {i : Int} (h : 0 ≤ i) : ∀ c ∈ ((toString i : String) : Str).cps.toList, 48 ≤ c ∧ c ≤ 57 := by
  intro c hm
  by_cases hk : c ≠ 45 ∧ (c < 48 ∨ 57 < c)
  · exact absurd hm (int_text_free' c hk i)
  · by_cases h45 : c = 45
    · exfalso
      subst h45
      obtain ⟨n, rfl⟩ := Int.eq_ofNat_of_zero_le h
      rw [signs_ofString] at hm
      obtain ⟨ch, hc, e⟩ := List.mem_map.mp hm
      have hd : ch.isDigit = true := by
        have : ch ∈ (Nat.repr n).toList := hc
        exact Nat.isDigit_of_mem_toDigits (b := 10) (n := n) (by decide) (by decide) (by simpa [Nat.repr] using this)
      have := digit_range hd
      omega
    · omega
theorem int_text_ne (i : Int) : ((toString i : String) : Str).cps.toList ≠ [] := by
  rw [signs_ofString]
  intro h
  have h := List.map_eq_nil_iff.mp h
  have nn : ∀ n : Nat, (Nat.repr n).toList ≠ [] := fun n e => by
    have : Nat.toDigits 10 n = [] := by simpa [Nat.repr] using e
    exact Nat.toDigits_ne_nil this
  cases i with
  | ofNat n => exact nn n h
  | negSucc n =>
    have : ("-" ++ Nat.repr (n + 1)).toList = [] := h
    simp at this
end El

set_option Elab.async false
set_option linter.all false
set_option maxRecDepth 100000
set_option maxHeartbeats 4000000
/-! Own words: operators of own classes, static methods. -/
namespace El
open PySem PySem.Spec PyProof.Rows L2
theorem cmpBack_of {X : Cx} {pins : List (Addr × Obj)} {σ : L2.St} {Q : VK} {u : Value} {s' : Shared} (h : EP X pins σ Q u s') : PySem.W.CmpBack (EP X pins σ Q) u s' := by
  obtain ⟨v, H', I, r, q⟩ := id h
  cases v with
  | non => cases (show u = Value.none from r); exact h
  | bl b => cases (show u = Value.bool b from r); exact h
  | int i => obtain ⟨t, e⟩ := (show ∃ t, u = Value.int i t from r); subst e; exact h
  | str i => obtain ⟨t, e⟩ := (show ∃ t, u = Value.str i t from r); subst e; exact h
  | byt i => obtain ⟨t, e⟩ := (show ∃ t, u = Value.bytes i t from r); subst e; exact h
  | flt i => obtain ⟨t, e⟩ := (show ∃ t, u = Value.float i t from r); subst e; exact h
  | ref a => cases (show u = Value.ref a from r); exact h
  | ty n => cases (show u = Value.type n from r); exact h
/-- an own class's method for an operator -/
structure OpC (K : PySem.W.Frag) (C f : Addr) (op : Operator) : Prop where
  sf : PySem.W.selfFirst K C = true
  at_ : PySem.W.findIn K (.ref C) (PySem.dunder op.info.2) = some (some (.ref f))
  fn : PySem.W.isFn K (.ref f) = true
/-- .. with a value of the built-in type T on the right -/
structure OpT (K : PySem.W.Frag) (C f : Addr) (op : Operator) (T : String) : Prop where
  c : OpC K C f op
  hr : ∃ rc, PySem.W.findIn K (.ref C) (PySem.dunderR op.info.2) = some rc ∧ (rc = none ∨ ∃ g : Addr, rc = some (.ref g))
  h1 : ∃ fo, PySem.W.findIn K (.type T) (PySem.dunder op.info.2) = some fo
  h2 : ∃ ro, PySem.W.findIn K (.type T) (PySem.dunderR op.info.2) = some ro
  sub : PySem.W.subIn K (.type T) (.ref C) = some false
structure InvC (K : PySem.W.Frag) (C f : Addr) : Prop where
  at_ : PySem.W.findIn K (.ref C) "__invert__" = some (some (.ref f))
  fn : PySem.W.isFn K (.ref f) = true
section
variable {X : Cx} {CX : CXT} {k : Nat} {C f : Addr} {fd : FuncData} {ps : List Str} {sp : Sp} {E : XK} {op : Operator}
/-- a op b, both of the class at C -/
def rOwn (C : Addr) (sp : Sp) (E : XK) : R2 := fun x y H Q => ∃ a b dx fs dy gs, x = .ref a ∧ y = .ref b ∧ H a = some (.ins C dx fs) ∧ H b = some (.ins C dy gs) ∧ sp [.ref a, .ref b] H Q E
theorem op_own (c : OpC X.K C f op) (F : FnOk X.prog X.w X.K X.mg X.base CX k f fd ps sp) (hr : Room k X.A) (hb : Binds X.K fd ps []) (hx : Passes CX X E) : OpR X (binaryOp op) (rOwn C sp E) := by
  intro pins s σ H x y v u Q I rx ry h
  obtain ⟨a, b, dx, fs, dy, gs, rfl, rfl, ea, eb, q⟩ := h
  obtain rfl : v = Value.ref a := rx
  obtain rfl : u = Value.ref b := ry
  obtain ⟨m, fr⟩ := I.fr
  obtain ⟨mA, O, _⟩ := ins_get I.hok ea
  obtain ⟨od, J, _⟩ := O.look
  obtain ⟨mB, O2, _⟩ := ins_get I.hok eb
  obtain ⟨od2, J2, _⟩ := O2.look
  refine PySem.W.binop_K fr I.ok.mod.kin J J2.type c.sf c.at_ c.fn ?_
  refine wpAny_mono (run_fn (us := [.ref a, .ref b]) (vs := [.ref a, .ref b]) (ds := []) (dvs := []) F hr hb .nil hx I (.cons rfl (.cons rfl .nil)) q) (fun u' s' h' => cmpBack_of h') fun _ _ z => z
/-- a op n, n an int -/
def rOwnI (C : Addr) (sp : Sp) (E : XK) : R2 := fun x y H Q => ∃ a dx fs i, x = .ref a ∧ y = .int i ∧ H a = some (.ins C dx fs) ∧ sp [.ref a, .int i] H Q E
theorem op_ownI (c : OpT X.K C f op "int") (F : FnOk X.prog X.w X.K X.mg X.base CX k f fd ps sp) (hr : Room k X.A) (hb : Binds X.K fd ps []) (hx : Passes CX X E) : OpR X (binaryOp op) (rOwnI C sp E) := by
  intro pins s σ H x y v u Q I rx ry h
  obtain ⟨a, dx, fs, i, rfl, rfl, ea, q⟩ := h
  obtain rfl : v = Value.ref a := rx
  obtain ⟨t, rfl⟩ := ry
  obtain ⟨m, fr⟩ := I.fr
  obtain ⟨mA, O, _⟩ := ins_get I.hok ea
  obtain ⟨od, J, _⟩ := O.look
  obtain ⟨rc, hr1, hr2⟩ := c.hr
  obtain ⟨fo, h1⟩ := c.h1
  obtain ⟨ro, h2⟩ := c.h2
  refine PySem.W.ksp_binT fr I.ok.mod.kin J (T := "int") rfl c.c.sf c.c.at_ c.c.fn hr1 hr2 h1 h2 c.sub ?_
  refine wpAny_mono (run_fn (us := [.ref a, .int i t]) (vs := [.ref a, .int i]) (ds := []) (dvs := []) F hr hb .nil hx I (.cons rfl (.cons ⟨t, rfl⟩ .nil)) q) (fun u' s' h' => cmpBack_of h') fun _ _ z => z
/-- ~a -/
theorem un_own (c : InvC X.K C f) (F : FnOk X.prog X.w X.K X.mg X.base CX k f fd ps sp) (hr : Room k X.A) (hb : Binds X.K fd ps []) (hx : Passes CX X E) : UnR X (unaryOp .Invert) (fun x H Q => ∃ a dx fs, x = .ref a ∧ H a = some (.ins C dx fs) ∧ sp [.ref a] H Q E) := by
  intro pins s σ H x v Q I rx h
  obtain ⟨a, dx, fs, rfl, ea, q⟩ := h
  obtain rfl : v = Value.ref a := rx
  obtain ⟨m, fr⟩ := I.fr
  obtain ⟨mA, O, _⟩ := ins_get I.hok ea
  obtain ⟨od, J, _⟩ := O.look
  exact PySem.W.ksp_inv fr I.ok.mod.kin J c.at_ c.fn (run_fn (us := [.ref a]) (vs := [.ref a]) (ds := []) (dvs := []) F hr hb .nil hx I (.cons rfl .nil) q)
end

section
variable {X : Cx} {CX : CXT} {k : Nat} {C f : Addr} {fd : FuncData} {ps : List Str} {sp : Sp} {E : L2.St → XK} {op : Operator} {a b : Expr} {ta tb : TE} {pos : Pos}
/-- .. what it lets out being taken where it stands -/
def tOwnS (C : Addr) (sp : Sp) (E : L2.St → XK) (ta tb : TE) : TE := fun σ H Q => ta σ H fun x H1 => tb σ H1 fun y H2 => ∃ a b dx fs dy gs, x = .ref a ∧ y = .ref b ∧ H2 a = some (.ins C dx fs) ∧ H2 b = some (.ins C dy gs) ∧ sp [.ref a, .ref b] H2 Q (E σ)
theorem pe_bopS (c : OpC X.K C f op) (F : FnOk X.prog X.w X.K X.mg X.base CX k f fd ps sp) (hr : Room k X.A) (hb : Binds X.K fd ps []) (hx : ∀ σ, PassesAt CX X σ (E σ)) (ha : PE X a ta) (hb2 : PE X b tb) : PE X (.BinOp a op b pos) (tOwnS C sp E ta tb) := by
  refine ⟨fun pins s σ H Q I h => ?_⟩
  refine wpAny_BinOp (thn (ha.run pins s σ H _ I h) fun v s1 ⟨x, H1, I1, rx, q1⟩ => thn (hb2.run pins s1 σ H1 _ I1 q1) fun u s2 ⟨y, H2, I2, ry, a, b, dx, fs, dy, gs, ex, ey, ea, eb, q⟩ => ?_)
  subst ex ey
  obtain rfl : v = Value.ref a := rx
  obtain rfl : u = Value.ref b := ry
  obtain ⟨m, fr⟩ := I2.fr
  obtain ⟨mA, O, _⟩ := ins_get I2.hok ea
  obtain ⟨od, J, _⟩ := O.look
  obtain ⟨mB, O2, _⟩ := ins_get I2.hok eb
  obtain ⟨od2, J2, _⟩ := O2.look
  refine PySem.W.binop_K fr I2.ok.mod.kin J J2.type c.sf c.at_ c.fn ?_
  refine wpAny_mono (run_fnS (us := [.ref a, .ref b]) (vs := [.ref a, .ref b]) F hr hb (hx σ) I2 (.cons rfl (.cons rfl .nil)) q) (fun u' s' h' => cmpBack_of h') fun _ _ z => z
end

/-! ### static methods, by the class's name -/
structure SMet (K : PySem.W.Frag) (C : Addr) (mc : Value) (m : Str) (p g : Addr) : Prop where
  at_ : PySem.W.findCls K (.ref C) mc m = some (.get (.builtin "staticmethod.__get__") (.ref p) .none (.ref C))
  rc : ∃ rest, PySem.W.recIn K p "staticmethod" = some (.ref g :: rest)
  kp : PySem.W.keepIn K (.ref g) = true
section
variable {X : Cx} {CX : CXT} {k : Nat} {C p g : Addr} {mc : Value} {fd : FuncData} {ps : List Str} {sp : Sp} {E : XK} {o e : Expr} {es : List Expr} {m : Str} {pos apos : Pos} {ta : TE} {t : TA} {pl : Sem Bool}
def tSM (C : Addr) (sp : Sp) (E : XK) (ta : TE) (t : TA) : TE := fun σ H Q => ta σ H fun x H1 => x = .ref C ∧ t σ H1 fun vs H2 => sp vs H2 Q E
theorem getsm_ok {pins : List (Addr × Obj)} {σ : L2.St} {H : Hp} {s : Shared} {A : Around} {E : Value → Shared → Prop} {Q : Value × List Value → Shared → Prop} (I : Inv X pins σ H s) (r : ClX.CRead X.K C mc) (c : SMet X.K C mc m p g)
    (h : ∀ s', Inv X pins σ H s' → Q (.ref g, []) s') : wpAny (model X.prog X.w) A (getMethod (.ref C) m pl) Q E s := by
  obtain ⟨rest, hp⟩ := c.rc
  refine PySem.W.method_cls I.kIn r.ga ?_
  refine PySem.W.cls_bind I.kIn r.rd c.at_ ?_
  exact wpAny_call (PySem.W.sm_get (s := { s with toks := s.toks + 1 }) I.kIn hp (PySem.W.handed_on rfl (h _ (I.tok _))))
theorem pe_smeth (he : PE X o ta) (r : ClX.CRead X.K C mc) (c : SMet X.K C mc m p g) (F : FnOk X.prog X.w X.K X.mg X.base CX k g fd ps sp) (hr : Room k X.A) (hb : Binds X.K fd ps []) (hx : Passes CX X E) (ha : PA X (e :: es) t)
    (hst : starEach (e :: es) X.env = (false, eval e X.env) :: starEach es X.env := by rfl) (hpl : (backTo pos (starEach es X.env)).any (·.1) = false := by rfl)
    (ht : eval (.Call (.Attribute o m apos) (e :: es) [] pos) X.env = (do
      let ov ← eval o X.env
      standAt apos.atName
      let (f, first) ← holding [ov] (getMethod ov m pl)
      callWith pos f first (backTo pos (starEach (e :: es) X.env)) (backToKw pos (keywordEach [] X.env))) := by rfl) :
    PE X (.Call (.Attribute o m apos) (e :: es) [] pos) (tSM C sp E ta t) := by
  refine ⟨fun pins s σ H Q I h => ?_⟩
  refine PySem.W.methodCall_KW (pl := pl) (thn (he.run pins s σ H _ I h) fun u s1 ⟨x, H1, I1, rx, ex, q⟩ => ?_) ht
  subst ex
  obtain rfl : u = Value.ref C := rx
  refine getsm_ok I1 r c fun s2 I2 => ?_
  refine PySem.W.callWith_K (h₀ := X.base) I2.ok.mod.kin c.kp (thn (ha.run pos pins s2 σ H1 _ I2 q) fun us s3 ⟨vs, H2, I3, rv, q2⟩ => ⟨I3.kIn, ?_⟩) hst hpl
  have hl : sp (vs ++ []) H2 Q E := by rw [List.append_nil]; exact q2
  exact run_fn (ds := []) (dvs := []) F hr hb .nil hx I3 rv hl
theorem pe_smeth0 (he : PE X o ta) (r : ClX.CRead X.K C mc) (c : SMet X.K C mc m p g) (F : FnOk X.prog X.w X.K X.mg X.base CX k g fd ps sp) (hr : Room k X.A) (hb : Binds X.K fd ps []) (hx : Passes CX X E)
    (ht : eval (.Call (.Attribute o m apos) [] [] pos) X.env = (do
      let ov ← eval o X.env
      standAt apos.atName
      let (f, first) ← holding [ov] (getMethod ov m pl)
      callWith pos f first (backTo pos (starEach [] X.env)) (backToKw pos (keywordEach [] X.env))) := by rfl) :
    PE X (.Call (.Attribute o m apos) [] [] pos) (tSM C sp E ta tNil) := by
  refine ⟨fun pins s σ H Q I h => ?_⟩
  refine PySem.W.methodCall_KW (pl := pl) (thn (he.run pins s σ H _ I h) fun u s1 ⟨x, H1, I1, rx, ex, q⟩ => ?_) ht
  subst ex
  obtain rfl : u = Value.ref C := rx
  refine getsm_ok I1 r c fun s2 I2 => ?_
  exact PySem.W.callWith_K0 I2.kIn c.kp (run_fn (us := []) (vs := []) (ds := []) (dvs := []) F hr hb .nil hx I2 .nil q)
end

/-! ### defs of own classes, ready to be called -/
structure CalB (P : Program) (w : World) (K : PySem.W.Frag) (mg : Str → Option Value) (base : Heap) (CX : CXT) (k : Nat) (f : Addr) (fd : FuncData) (ps : List Str) (sp : Sp) : Prop where
  G : FnOk P w K mg base CX k f fd ps sp
  b : Binds K fd ps []
structure CalI (P : Program) (w : World) (K : PySem.W.Frag) (mg : Str → Option Value) (base : Heap) (CX : CXT) (k : Nat) (x : Str) (C f : Addr) (fd : FuncData) (ps : List Str) (sp : Sp) : Prop extends CalB P w K mg base CX k f fd ps sp where
  mkc : Mk K C f
  m : mg x = some (.ref C)
structure CalS (P : Program) (w : World) (K : PySem.W.Frag) (mg : Str → Option Value) (base : Heap) (CX : CXT) (k : Nat) (C p : Addr) (m : Str) (f : Addr) (fd : FuncData) (ps : List Str) (sp : Sp) : Prop extends CalB P w K mg base CX k f fd ps sp where
  rd : ClX.CRead K C (.type "type")
  sm : SMet K C (.type "type") m p f
structure CalP (P : Program) (w : World) (K : PySem.W.Frag) (mg : Str → Option Value) (base : Heap) (CX : CXT) (k : Nat) (C p : Addr) (m : Str) (f : Addr) (fd : FuncData) (ps : List Str) (sp : Sp) : Prop extends CalB P w K mg base CX k f fd ps sp where
  cl : Cls K C
  pr : PropOf K C m p f
structure CalO (P : Program) (w : World) (K : PySem.W.Frag) (mg : Str → Option Value) (base : Heap) (CX : CXT) (k : Nat) (C : Addr) (op : Operator) (f : Addr) (fd : FuncData) (ps : List Str) (sp : Sp) : Prop extends CalB P w K mg base CX k f fd ps sp where
  op : OpC K C f op
structure CalC (P : Program) (w : World) (K : PySem.W.Frag) (mg : Str → Option Value) (base : Heap) (CX : CXT) (k : Nat) (C f : Addr) (fd : FuncData) (ps : List Str) (sp : Sp) : Prop extends CalB P w K mg base CX k f fd ps sp where
  co : StX.CallO K C f

/-! ### the written part named (in comprehensions) -/
section
variable {X : Cx} {e : Expr} {es : List Expr} {f : Str} {pos p : Pos} {ta : TE} {t : TA}
theorem e_f (K : PySem.W.Frag) (he : PE X e ta) (hb : attributeBase e f X.env (eval e X.env) = eval e X.env := by rfl) (h : X.K = K := by rfl) : PE X (.Attribute e f pos) (tFld K ta f) := h ▸ pe_fld he hb
theorem e_cv (K : PySem.W.Frag) (he : PE X e ta) (hb : attributeBase e f X.env (eval e X.env) = eval e X.env := by rfl) (h : X.K = K := by rfl) : PE X (.Attribute e f pos) (ClX.tCVal K ta f) := h ▸ ClX.pe_cval he hb
end

/-! ### len of an own class -/
structure LenC (K : PySem.W.Frag) (C f : Addr) : Prop where
  at_ : PySem.W.findIn K (.ref C) "__len__" = some (some (.ref f))
  fn : PySem.W.isFn K (.ref f) = true
theorem call_lenO {X : Cx} {k : Nat} {C f : Addr} {fd : FuncData} {ps : List Str} {sp : Sp} (c : LenC X.K C f) (F : FnOk X.prog X.w X.K X.mg X.base CX0 k f fd ps sp) (hr : Room (k + 1) X.A) (hb : Binds X.K fd ps []) :
    CallR X (.builtin "len") (fun xs H Q => ∃ a dx fs, xs = [.ref a] ∧ H a = some (.ins C dx fs) ∧ sp [.ref a] H (fun v H' => ∃ n : Int, v = .int n ∧ 0 ≤ n ∧ n < 2 ^ 62 ∧ Q (.int n) H') E0) := by
  intro pins s σ H xs us Q I r h
  obtain ⟨a, dx, fs, rfl, ea, q⟩ := h
  obtain rfl := Vals.ref1 r
  obtain ⟨m, fr⟩ := I.fr
  obtain ⟨mA, O, _⟩ := ins_get I.hok ea
  obtain ⟨od, J, _⟩ := O.look
  refine PySem.W.len_K fr I.ok.mod.kin J c.at_ c.fn ?_
  have hl : ([Value.ref a] ++ []).length = ps.length := (F.len _ _ _ _ q)
  have b := hb s [.ref a] I.kIn hl
  rw [List.append_nil] at b
  refine wpAny_call (codeAny_mono (F.run X.A.in1 X.stack s H ⟨[.ref a], []⟩ [.ref a] [.ref a] _ E0 hr.in1 I.env0.in1 b (.cons rfl .nil) q) fun r s' hq' => ?_)
  cases r with
  | error e => exact False.elim hq'
  | ok fl =>
    cases fl with
    | ret u =>
      obtain ⟨v, H', I3, rv, n, rfl, h0, h1, q3⟩ := I.after hq'
      obtain ⟨t, rfl⟩ := rv
      exact ⟨⟨h0, Int.lt_trans h1 (by decide)⟩, ⟨.int n, H', I3.tok _, ⟨_, rfl⟩, q3⟩⟩
    | next => exact False.elim hq'
    | brk => exact False.elim hq'
    | cont => exact False.elim hq'
structure CalL (P : Program) (w : World) (K : PySem.W.Frag) (mg : Str → Option Value) (base : Heap) (CX : CXT) (k : Nat) (C f : Addr) (fd : FuncData) (ps : List Str) (sp : Sp) : Prop extends CalB P w K mg base CX k f fd ps sp where
  le : LenC K C f
end El

set_option Elab.async false
set_option linter.all false
set_option maxRecDepth 100000
set_option maxHeartbeats 4000000
/-! Own words: what the written part says of an own exception class, isinstance of what an except clause holds. -/
namespace El
open PySem PySem.Spec PyProof.Rows L2 NdefX
/-- isinstance(e, c), e the exception that the suite holds, with a dict -/
def rIsX (K : PySem.W.Frag) (cls : Value) (d : Option Addr) (a : Addr) : List V → Hp → VK → Prop := fun xs H Q => ∃ (D dd : Addr) (fs : List (Str × V)) (c : V) (cv : Value) (b : Bool), xs = [.ref a, c] ∧ cls = .ref D ∧ d = some dd ∧ H dd = some (.xd fs) ∧ ExcC K D ∧ (∀ u, RelV c u → u = cv) ∧ PySem.W.kitOne K (.ref D) cv = some b ∧ Q (.bl b) H
theorem call_isX {X : Cx} {a : Addr} {oe : Obj} {cls : Value} {d : Option Addr} {pn : List (Addr × Obj)} (hz : Zc cls d oe) (hf : ∃ vs, oe.data = .fields vs) : CallR (X.suite a ((a, oe) :: pn)) (.builtin "isinstance") (rIsX X.K cls d a) := by
  intro pins s σ H xs us Q I r h
  obtain ⟨D, dd, fs, c, cv, b, rfl, rfl, rfl, ea, C, hcv, e, q⟩ := h
  cases r with
  | cons rx rr =>
    cases rr with
    | cons rt rr =>
      cases rr
      cases rx
      have ec := hcv _ rt
      subst ec
      obtain ⟨hget, _⟩ := I.pin (a, oe) (List.mem_append.mpr (.inl List.mem_cons_self))
      obtain ⟨vs, hv⟩ := hf
      have hx : ObjOk X.prog X.w H s.heap dd (.xd fs) := I.hok dd _ ea
      obtain ⟨mA, hns, hr⟩ := hx
      obtain ⟨od, ho, hl⟩ := lookIn_ns hns
      have J : PySem.W.InstAt s.heap a oe D (some od) := ⟨hget, hz.1, by unfold PySem.W.notCls; rw [hv] <;> rfl, by rw [hz.2]; exact ho⟩
      obtain ⟨cdD, hcD, _⟩ := PySem.W.any_some C.hd
      exact PySem.W.kia_one (PySem.W.kitx_exc (by rw [hcD]; rfl) C.hg C.hk C.hs C.ha C.hn C.ht C.hm) I.kIn J e (fun z => nomatch z) fun tk => ⟨.bl b, H, I.kept (t' := tk) fun _ _ z => z, rfl, q⟩
/-- an own exception class with its own __init__ -/
structure ExK (K : PySem.W.Frag) (C fI : Addr) (fields : List Str) : Prop where
  oex : OexC K C
  sup : PySem.W.ks_superIn K C C "__init__" = some (some (.builtin "ValueError.__init__"))
  subV : PySem.W.subIn K (.ref C) (.type "ValueError") = some true
  mro : PySem.W.mroIn K C (.ref C) = some true
  iC : PySem.W.findIn K (.ref C) "__init__" = some (some (.ref fI))
  tI : PySem.W.typeIn K (.ref fI) = some (.type "function")
  no : ∀ f ∈ fields, PySem.W.findIn K (.ref C) f = some none
  xf : XfC K C
  is : ExcC K C
/-- what a suite that catches it must know -/
structure ExV (K : PySem.W.Frag) (C : Addr) (fields : List Str) : Prop where
  no : ∀ f ∈ fields, PySem.W.findIn K (.ref C) f = some none
  xf : XfC K C
  is : ExcC K C
/-- the i-th def of the class body -/
def mthS (s : Stmt) (i : Nat) : Stmt := match s with
  | .ClassDef _ _ _ b _ _ _ _ _ _ _ => b.getD i (.Pass ⟨0, 0, 0, 0⟩)
  | _ => .Pass ⟨0, 0, 0, 0⟩
/-- the same, from what the written part answers -/
theorem exk_mk {K : PySem.W.Frag} {C fI N : Addr} {fields : List Str} {nm q : Str} {bs bm : List Value} {sn : List Str} {sub : List Value} {ab : Bool} {col : Option Bool} {dd : Option Addr} {k0 k1 k2 k3 k5 : Option Value}
    (cls : K.lookup C = some (excClassObj nm q C N bs bm true sn sub ab col dd k0 k1 k2 k3 k5 "ValueError.__new__")) (ref : PySem.HandSPX.refsVE bm = true)
    (sa : PySem.W.findIn K (.ref C) "__setattr__" = some (some (.builtin "object.__setattr__"))) (exC : PySem.W.subIn K (.ref C) (.type "BaseException") = some true) (tyC : PySem.W.typeIn K (.ref C) = some (.type "type")) (kC : PySem.W.keepIn K (.ref C) = true)
    (sup : PySem.W.ks_superIn K C C "__init__" = some (some (.builtin "ValueError.__init__"))) (subV : PySem.W.subIn K (.ref C) (.type "ValueError") = some true) (mro : PySem.W.mroIn K C (.ref C) = some true)
    (iC : PySem.W.findIn K (.ref C) "__init__" = some (some (.ref fI))) (tI : PySem.W.typeIn K (.ref fI) = some (.type "function")) (no : ∀ f ∈ fields, PySem.W.findIn K (.ref C) f = some none)
    (ga : PySem.W.findIn K (.ref C) "__getattribute__" = some (some (.builtin "BaseException.__getattribute__"))) (gg : PySem.W.findIn K (.ref C) "__getattr__" = some none) (hd : PySem.W.hasDictIn K C = true)
    (hcl : PySem.W.findIn K (.ref C) "__class__" = some (some (.builtin "object.__class__"))) (hn : PySem.W.specialIn K (.builtin "object.__class__") "__get__" = some (some (.builtin "getset_descriptor.__get__"))) (ht : PySem.W.takesIn K (.builtin "object.__class__") = some true) (hm : PySem.W.mroIn K C (.type "object") = some true) : ExK K C fI fields :=
  ⟨⟨⟨nm, q, N, bs, bm, sn, sub, ab, col, dd, k0, k1, k2, k3, k5, cls, ref⟩, sa, exC, tyC, kC⟩, sup, subV, mro, iC, tI, no, ⟨ga, gg, exC, hd⟩, ⟨ga, gg, exC, hd, hcl, hn, ht, hm⟩⟩

/-! ### an own exception's __init__, by what it keeps -/
def spE (C : Addr) (ok : List V → Prop) (fs : List V → List (Str × V)) : Sp := fun vs H Q _ => ∃ (a : Addr) (ws : List V), vs = .ref a :: ws ∧ ok ws ∧ H a = some (exo a C none) ∧
  ∀ (dx : Addr) (H' : Hp), H dx = none → dx ≠ a → H' a = some (exo a C (some dx)) → H' dx = some (exd dx (fs ws)) → (∀ b, b ≠ a → b ≠ dx → H' b = H b) → Q .non H'
theorem mk_spE {C : Addr} {ok : List V → Prop} {fs : List V → List (Str × V)} {vs : List V} {H1 : Hp} {Q : XK} (hl : vs.length ≤ 1000) (ho : ok vs) (hq : ∀ d, H1 d = none → Q (.ref C) (some d) (upd H1 d (.xd (fs vs)))) :
    vs.length ≤ 1000 ∧ ∀ a, H1 a = none → spE C ok fs (.ref a :: (vs ++ [])) (upd H1 a (exo a C none))
      (fun v H2 => v = .non ∧ ∃ (d : Addr) (fs : List (Str × V)), H2 a = some (exo a C (some d)) ∧ H2 d = some (exd d fs) ∧ H1 d = none ∧ Q (.ref C) (some d) (upd (del H2 a) d (.xd fs))) (fun _ _ _ => False) := by
  refine ⟨hl, fun a na => ⟨a, vs, by rw [List.append_nil], ho, upd_same, fun dx H' n ne e1 e2 hh => ⟨rfl, dx, fs vs, e1, e2, ?_, ?_⟩⟩⟩
  · rw [upd_ne ne] at n
    exact n
  · have nd : H1 dx = none := by rw [upd_ne ne] at n; exact n
    have e : upd (del H' a) dx (.xd (fs vs)) = upd H1 dx (.xd (fs vs)) := by
      funext b
      by_cases hb : b = dx
      · rw [hb, upd_same, upd_same]
      · rw [upd_ne hb, upd_ne hb]
        by_cases ha : b = a
        · rw [ha, del_same, na]
        · rw [del_ne ha, hh b ha hb, upd_ne ha]
    rw [e]
    exact hq dx nd
/-- the class, its __init__, ready for a raise -/
structure CalE (P : Program) (w : World) (K : PySem.W.Frag) (mg : Str → Option Value) (base : Heap) (k : Nat) (x : Str) (C f : Addr) (fd : FuncData) (ps : List Str) (ok : List V → Prop) (fs : List V → List (Str × V)) (fields : List Str) : Prop where
  G : FnOk P w K mg base CX0 k f fd ps (spE C ok fs)
  b : Binds K fd ps []
  X : ExK K C f fields
  m : mg x = some (.ref C)
/-- one store, the dict being new -/
theorem ost1 {a C : Addr} {H : Hp} {f : Str} {y : V} {Q : Hp → Prop} (ea : H a = some (exo a C none)) (q : ∀ dx H', H dx = none → dx ≠ a → H' a = some (exo a C (some dx)) → H' dx = some (exd dx [(f, y)]) → (∀ b, b ≠ a → b ≠ dx → H' b = H b) → Q H') :
    ∀ dx, H dx = none → dx ≠ a → Q (upd (upd H dx (exd dx [(f, y)])) a (exo a C (some dx))) := fun dx n ne =>
  q dx _ n ne upd_same (by rw [upd_ne ne, upd_same]) fun b h1 h2 => by rw [upd_ne h1, upd_ne h2]
end El

set_option Elab.async false
set_option linter.all false
set_option maxRecDepth 100000
set_option maxHeartbeats 4000000
/-! Own words: methods of own classes, classes whose __init__ has defaults, tuple targets in comprehensions. -/
namespace El
open PySem PySem.Spec PyProof.Rows L2
structure CalM (P : Program) (w : World) (K : PySem.W.Frag) (mg : Str → Option Value) (base : Heap) (CX : CXT) (k : Nat) (C : Addr) (m : Str) (f : Addr) (fd : FuncData) (ps : List Str) (sp : Sp) : Prop extends CalB P w K mg base CX k f fd ps sp where
  cl : Cls K C
  me : Meth K C m f
/-- a class whose __init__ has defaults dvs that fill up -/
structure CalID (P : Program) (w : World) (K : PySem.W.Frag) (mg : Str → Option Value) (base : Heap) (CX : CXT) (k : Nat) (x : Str) (C f : Addr) (fd : FuncData) (ps : List Str) (dvs : List V) (sp : Sp) : Prop where
  G : FnOk P w K mg base CX k f fd ps sp
  b : ∃ ds, Vals dvs ds ∧ Binds K fd ps ds
  mkc : Mk K C f
  m : mg x = some (.ref C)
section
variable {X : Cx} {CX : CXT} {k : Nat} {C f : Addr} {fd : FuncData} {ps : List Str} {dvs : List V} {sp : Sp} {E : XK} {x : Str} {p pos : Pos} {e : Expr} {es : List Expr} {t : TA}
theorem pe_makeD (c : CalID X.prog X.w X.K X.mg X.base CX k x C f fd ps dvs sp) (hr : Room (k + 1) X.A) (hg : Gl X x) (hx : Passes CX X E) (ha : PA X (e :: es) t) (hdb : (x == ("__debug__" : Str)) = false := by decide)
    (he : starEach (e :: es) X.env = (false, eval e X.env) :: starEach es X.env := by rfl) (hpl : (backTo pos (starEach es X.env)).any (·.1) = false := by rfl) :
    PE X (.Call (.Name x p) (e :: es) [] pos) (tMake C sp dvs E t) := by
  obtain ⟨ds, hd, hb⟩ := c.b
  exact pe_make c.mkc c.G hr hg c.m hb hd hx ha hdb he hpl
end
section
variable {X : Cx}
theorem pg_tupK (K : PySem.W.Frag) {es : List Expr} {k : Nat} {t : TGs} {n : Nat} {pos : Pos} (hc : X.calm = true) (h : PGs X es t)
    (hn : (assignEach es X.env).length = n := by rfl) (hst : (assignEach es X.env).findIdx? (·.1) = none := by rfl) (hK : X.K = K := by rfl) : PG X (.Tuple es k pos) (gTup K n t) := hK ▸ pg_tup hc h hn hst
end
/-- a def of the text whose last parameter has a default -/
theorem fund_mk {K : PySem.W.Frag} {x qual : Str} {st : Stmt} {f T : Addr} {oc : Value} {od dd an : Option Addr} {osl dsl : Array (Option Value)} {kV doc pm cdv ct : Value} {its : Array Value} {n : Nat} {dvs : List V}
    (l : K.lookup f = some ⟨oc, od, .func (PySem.W.fnOf x qual (defArgs st) (defBody st) (defScope st) (.ref T) kV doc pm an cdv ct), osl⟩) (c : PySem.W.codeIn K cdv qual = true) (k : PySem.W.keepIn K (.ref f) = true)
    (lT : K.lookup T = some ⟨.type "tuple", dd, .seq its n, dsl⟩) (hv : Vals dvs its.toList) (hne : dvs ≠ []) : FunD K x qual (defArgs st) (defBody st) (defScope st) dvs [] f (PySem.W.fnOf x qual (defArgs st) (defBody st) (defScope st) (.ref T) kV doc pm an cdv ct) :=
  ⟨⟨oc, od, .ref T, kV, doc, pm, an, cdv, ct, osl, rfl, l, c, .inr ⟨hne, T, _, its.toList, n, rfl, lT, by simp, hv⟩, .inl rfl⟩, k⟩
end El

set_option Elab.async false
set_option linter.all false
set_option maxRecDepth 100000
set_option maxHeartbeats 4000000
/-! Own words: len(set(t)) of a tuple of any number of texts. -/
namespace El
open PySem PySem.Spec PyProof.Rows L2
/-- among the first i texts -/
def Has (xs : List Str) (i : Nat) : Str → Bool := fun y => (xs.take i).any (· == y)
/-- c different ones among the first i, as far as it is asked -/
def Cnt (xs : List Str) (i c : Nat) : Prop := c ≤ i ∧ (c = i ↔ (xs.take i).Nodup)
theorem has_iff {xs : List Str} {i : Nat} {y : Str} : Has xs i y = true ↔ y ∈ xs.take i := by
  unfold Has
  rw [List.any_eq_true]
  constructor
  · rintro ⟨z, hz, e⟩
    rw [beq_iff_eq] at e
    exact e ▸ hz
  · intro h
    exact ⟨y, h, beq_iff_eq.mpr rfl⟩
theorem take_more {xs : List Str} {i : Nat} {x : Str} (e : xs[i]? = some x) : xs.take (i + 1) = xs.take i ++ [x] := by rw [List.take_add_one, e]; rfl
theorem Cnt.nil (xs : List Str) : Cnt xs 0 0 := ⟨Nat.le_refl _, by simp⟩
theorem Cnt.more {xs : List Str} {i c : Nat} {x : Str} (h : Cnt xs i c) (e : xs[i]? = some x) : Cnt xs (i + 1) (if Has xs i x = true then c else c + 1) := by
  obtain ⟨h1, h2⟩ := h
  have hn : (xs.take (i + 1)).Nodup ↔ (xs.take i).Nodup ∧ x ∉ xs.take i := by
    rw [take_more e, List.nodup_append]
    constructor
    · rintro ⟨a, -, b⟩
      exact ⟨a, fun hx => b x hx x (List.mem_singleton.mpr rfl) rfl⟩
    · rintro ⟨a, b⟩
      refine ⟨a, by simp, fun y hy z hz => ?_⟩
      rw [List.mem_singleton] at hz
      intro q
      exact b (hz ▸ q ▸ hy)
  unfold Cnt
  rw [hn]
  by_cases q : Has xs i x = true
  · rw [if_pos q]
    refine ⟨by omega, ⟨fun z => absurd z (by omega), fun z => absurd (has_iff.mp q) z.2⟩⟩
  · rw [if_neg q]
    refine ⟨by omega, ⟨fun z => ⟨h2.mp (by omega), fun y => q (has_iff.mpr y)⟩, fun z => by rw [h2.mpr z.1]⟩⟩
section
variable {prog : Program} {w : World} {A : Around} {R : Result → Shared → Prop} {it : Addr} {fp wr : List Addr} {G : Array GenState → Array GenState → Prop} {n : Nat} {Pv : Nat → Value → Prop} {St : Nat → Shared → Prop}
theorem loopTx (W : WalksS prog w A.in1 it fp wr G n Pv St) (b : Addr) (hb : b ∉ fp) (xs : List Str) (hn : xs.length = n) (hs : n + 1 < scanBound) (hv : ∀ i v, Pv i v → ∃ t, v = .str (xs.getD i Str.empty) t) :
    ∀ (k i : Nat) (s : Shared), n - i = k → i ≤ n → St i s → (∃ c, Cnt xs i c ∧ s.heap.SetOf (PySem.strKind prog w) b (Has xs i) c) →
      (∀ s' c, Moved (b :: wr) G s s' → Cnt xs n c → s'.heap.SetOf (PySem.strKind prog w) b (Has xs n) c → R (.ok (.ret .none)) s') →
      codeAny (model prog w) A (.builtin "set.update.loop" ⟨[.ref b, .ref it], []⟩) R s := by
  have hbw : b ∉ wr := fun h => hb (W.sub _ h)
  have wsub : ∀ q ∈ wr, q ∈ b :: wr := fun q hq => List.mem_cons_of_mem _ hq
  intro k
  induction k with
  | zero =>
    rintro i s hk hi st ⟨c, hc, ho⟩ done
    obtain rfl : i = n := by omega
    refine codeAny_builtin PyProof.Rows.F.entry_set_update_loop ?_
    rw [Around.under_plainId PyProof.Rows.F.plain_set_update_loop _]
    refine wpAny_bind (m := pyNext (.ref it)) (W.done s _ _ st fun s1 mv => ?_)
    refine wpAny_pure (done s1 c (mv.mono wsub) hc ?_)
    obtain ⟨o, es, ep, tb, e, more⟩ := ho
    exact ⟨o, es, ep, tb, mv.heap b _ hbw e, more⟩
  | succ k ih =>
    rintro i s hk hi st ⟨c, hc, ho⟩ done
    have lt : i < n := by omega
    refine codeAny_builtin PyProof.Rows.F.entry_set_update_loop ?_
    rw [Around.under_plainId PyProof.Rows.F.plain_set_update_loop _]
    refine wpAny_bind (m := pyNext (.ref it)) (W.item i s _ _ lt st fun v s1 pv st1 mv => ?_)
    obtain ⟨t, rfl⟩ := hv i v pv
    have ei : xs[i]? = some (xs.getD i Str.empty) := by
      rw [List.getD_eq_getElem?_getD, List.getElem?_eq_getElem (by omega)]; rfl
    have ho1 : s1.heap.SetOf (PySem.strKind prog w) b (Has xs i) c := by
      obtain ⟨o, es, ep, tb, e, more⟩ := ho
      exact ⟨o, es, ep, tb, mv.heap b _ hbw e, more⟩
    refine wpAny_bind (m := holding [Value.str (xs.getD i Str.empty) t] (setAdd b (.str (xs.getD i Str.empty) t))) (wpAny_holding ?_)
    unfold setAdd
    refine wpAny_holding (wpAny_bind ((PySem.strKind prog w).pyHash (strKind_is _ _ _ _) ?_))
    have hlt : c + 1 < scanBound := by have := hc.1; omega
    refine wpAny_setAddHashed_of (knd := PySem.strKind prog w) (s := { s1 with toks := s1.toks + 1 }) (strKind_is _ _ _ _) rfl ho1 hlt fun h' same ho2 => ?_
    have ho3 : h'.SetOf (PySem.strKind prog w) b (Has xs (i + 1)) (if Has xs i (xs.getD i Str.empty) = true then c else c + 1) := by
      refine SetOf_congr ho2 (fun y => ?_) rfl
      rw [Bool.eq_iff_iff, has_iff, take_more ei, List.mem_append, List.mem_singleton, Bool.or_eq_true, has_iff, decide_eq_true_iff]
    refine wpAny_pure ⟨plainId_quiet PyProof.Rows.F.plain_set_update_loop _, ih (i + 1) _ (by omega) lt (W.frame _ s1 _ _ st1 (Nat.le_succ _) fun q hq o e => ?_) ⟨_, hc.more ei, ho3⟩ fun s2 c2 mv2 hc2 hS2 => ?_⟩
    · exact (same.2 q fun z => hb (z ▸ hq)).trans e
    · refine done s2 c2 (Moved.trans W.gtrans ((mv.mono wsub).then_heap (Nat.le_succ _) fun q o hq e => ?_) mv2) hc2 hS2
      exact (same.2 q fun z => hq (z ▸ List.mem_cons_self)).trans e
end
/-- a new set's object -/
def setObj (led : Bool) : Obj := { cls := .type "set", dict := none, data := .set #[] 0 (.fresh 0 0 led) }
section
variable {prog : Program} {w : World} {A : Around} {E : Value → Shared → Prop} {s : Shared}
/-- what set.__init__ does to a new set with a tuple of texts -/
theorem init_tx {l : Addr} {items : Array Value} {xs : List Str} {led : Bool} (hh : A.handled = none) (hl : s.heap.IsTuple l items) (hi : PyProof.Rows.StrsAre items.toList xs) (hx : xs.length + 1 < scanBound) :
    codeAny (model prog w) A (.call (.builtin "set.__init__") ⟨[.ref s.heap.objs.size, .ref l], []⟩)
      (wants (fun r s2 => r = .none ∧ ∃ h' tk c, s2 = { s with heap := h', toks := tk } ∧ Cnt xs xs.length c ∧ h'.SetOf (PySem.strKind prog w) s.heap.objs.size (Has xs xs.length) c ∧ (∀ q o, s.heap.get? q = some o → h'.get? q = some o)) E)
      { s with heap := s.heap.push (setObj led) } := by
  have hT : Shared.TypeIs { s with heap := s.heap.push (setObj led) } (.ref s.heap.objs.size) "set" := ⟨_, Heap.get?_push_size _ rfl, rfl⟩
  refine codeAny_call_builtin PySem.F.called_set.init.plain PySem.F.entry_set_init (check_set_init_1 hT ?_)
  obtain ⟨⟨kc, kd, kx, ks⟩, hol, hcl, nl, hdl⟩ := hl
  simp only at hcl hdl
  subst hcl hdl
  have hol' : (s.heap.push (setObj led)).get? l = some _ := Heap.get?_push_of_some _ hol
  have hl1 : (s.heap.push (setObj led)).IsTuple l items := ⟨_, hol', rfl, nl, rfl⟩
  have hsls := PySem.F.sub_tuple_set
  have hslf := PySem.F.sub_tuple_frozenset
  have hne : (Value.type "tuple" == Value.type "dict") = false := by decide
  unfold Builtin.«set.__init__» noKeywords Builtin.Frozenset.updateFrom
  generalize ePI : pyIter = PI
  wp_walk
  subst ePI
  refine wpAny_pyIter_tuple hl1 (wpAny_bind (wpAny_runValue ?_))
  have below : l < s.heap.objs.size := Heap.lt_size hol
  have nh : A.in1.in1.handled = none := by simp [hh]
  have z1 : (s.heap.push (setObj led)).objs.size = s.heap.objs.size + 1 := Heap.size_push ..
  have apart : l ≠ (s.heap.push (setObj led)).objs.size := by
    rw [z1]
    exact Nat.ne_of_lt (Nat.lt_succ_of_lt below)
  have out : s.heap.objs.size ∉ [(s.heap.push (setObj led)).objs.size, l] := by
    rw [List.mem_cons, List.mem_singleton, z1]
    exact fun q => q.elim (Nat.ne_of_lt (Nat.lt_succ_self _)) (Nat.ne_of_gt below)
  have zx : xs.length = items.size := by rw [← StrsAre.len_eq hi, Array.length_toList]
  refine loopTx ((Walks.tuple nh _ l apart items).toS) s.heap.objs.size out xs zx (zx ▸ hx) (fun i v e => SS.strs_at hi i v (Array.getElem?_toList ▸ e)) (items.size - 0) 0 _ (by omega) (Nat.zero_le _) ?at_ ?first ?last
  case at_ => exact ⟨⟨_, Heap.get?_push_size _ rfl, rfl, rfl⟩, hl1.push _⟩
  case first =>
    refine ⟨0, Cnt.nil xs, ?_⟩
    refine SetOf_congr ((PyProof.Rows.setObjOf_fresh (knd := PySem.strKind prog w) led).setOf (Heap.get?_push_of_some _ (Heap.get?_push_size _ rfl)) (by unfold scanBound; omega)) (fun y => ?_) rfl
    rfl
  case last =>
    rintro ⟨h', g', d', tk', os'⟩ c mv hc ho
    obtain rfl : g' = s.gens := mv.gens
    obtain rfl : d' = s.drawn := mv.drawn
    obtain rfl : os' = s.os := mv.os
    refine wpAny_pure (wpAny_pure ⟨rfl, h', tk', c, rfl, zx ▸ hc, zx ▸ ho, fun q o e => ?_⟩)
    have lq := Heap.lt_size e
    refine mv.heap q o (by rw [List.mem_cons, List.mem_singleton, z1]; exact fun z => z.elim (Nat.ne_of_lt lq) (Nat.ne_of_lt (Nat.lt_succ_of_lt lq))) (Heap.get?_push_of_some _ (Heap.get?_push_of_some _ e))
set_option maxHeartbeats 8000000 in
theorem call_set_tx {l : Addr} {items : Array Value} {xs : List Str} {Q : Value → Shared → Prop} (hh : A.handled = none) (hl : s.heap.IsTuple l items) (hi : PyProof.Rows.StrsAre items.toList xs) (hx : xs.length + 1 < scanBound)
    (h : ∀ (h' : Heap) (tk c : Nat), Cnt xs xs.length c → h'.SetOf (PySem.strKind prog w) s.heap.objs.size (Has xs xs.length) c → (∀ q o, s.heap.get? q = some o → h'.get? q = some o) → Q (.ref s.heap.objs.size) { s with heap := h', toks := tk }) :
    wpAny (model prog w) A (call (.type "set") [.ref l]) Q E s := by
  obtain ⟨_, _, hmro⟩ := PySem.F.called_set.mro
  have hmade := PySem.F.called_set.made
  have hsub := PySem.F.called_set.sub
  have h1 := PySem.F.called_set.notType
  have h2 := PySem.F.called_set.canCreate
  have hct := PySem.F.typeCall_set_1 (.ref l)
  refine wpAny_call (codeAny_of_tree (wpAny_pure (a := _) ⟨Code.quiet_builtin _ (by decide +kernel), codeAny_builtin PySem.F.entry_type_call ?_⟩))
  rw [Around.under_plain (weight_type_call_type "set" [.ref l] []) rfl]
  repeat (any_goals (first | assumption | wp_step))
  refine codeAny_mono (code_set_new_1 (.ref l) (E := E) (Q₁ := fun v s1 => ∃ led, v = .ref s.heap.objs.size ∧ s1 = { s with heap := s.heap.push (setObj led) }) fun led => ⟨led, rfl, rfl⟩) fun r s1 hr => ?_
  match r, hr with
  | .ok (.ret v), hr =>
    obtain ⟨led, rfl, rfl⟩ := hr
    have hS : (s.heap.push (setObj led)).get? s.heap.objs.size = some (setObj led) := Heap.get?_push_size _ rfl
    have hT : Shared.TypeIs { s with heap := s.heap.push (setObj led) } (.ref s.heap.objs.size) "set" := ⟨_, hS, rfl⟩
    have hli := PySem.F.called_set.init.lookup
    have hbi := PySem.F.called_set.init.bind (.ref s.heap.objs.size)
    repeat (any_goals (first | assumption | wp_step))
    refine codeAny_mono (init_tx (E := E) (by simp [hh]) hl hi hx) fun r s2 hr => ?_
    match r, hr with
    | .ok (.ret v), hr =>
      obtain ⟨rfl, h', tk, c, rfl, hc, ho, keep⟩ := hr
      repeat (any_goals (first | assumption | wp_step))
      exact h h' tk c hc ho keep
    | .error e, hr => exact hr
    | .ok .next, hr => exact hr.elim
    | .ok .brk, hr => exact hr.elim
    | .ok .cont, hr => exact hr.elim
  | .error e, hr => exact hr
  | .ok .next, hr => exact hr.elim
  | .ok .brk, hr => exact hr.elim
  | .ok .cont, hr => exact hr.elim
end
/-- len(set(t)), t a tuple of texts: how many different ones, so far as it matters here -/
def tLenSetTx (K : PySem.W.Frag) (ta : TE) : TE := fun σ H Q => ta σ H fun x H1 => ∃ (l : Addr) (xs : List Str), x = .ref l ∧ SqT K H1 l (xs.map V.str) ∧ xs.length < 64 ∧ ∀ c : Nat, c ≤ xs.length → (c = xs.length ↔ xs.Nodup) → Q (.int c) H1
theorem pe_lenSetTx {X : Cx} {a : Expr} {ta : TE} {p p2 q pos : Pos} (hg : Gl X "len") (hm : X.mg "len" = none) (hg2 : Gl X "set") (hm2 : X.mg "set" = none) (ha : PE X a ta) (hc : X.calm = true := by rfl)
    (na : starEach [a] X.env = (false, eval a X.env) :: starEach [] X.env := by rfl) : PE X (.Call (.Name "len" p) [.Call (.Name "set" p2) [a] [] q] [] pos) (tLenSetTx X.K ta) := by
  refine ⟨fun pins s σ H Q I h => Call_ (ld_blt I hg hm boot_len (PyProof.Rows.callWith_builtin1 (PyProof.Rows.args_cons (Call_ (ld_blt I hg2 hm2 boot_set (PyProof.Rows.callWith_type1 (PyProof.Rows.args_cons (thn (ha.run pins s σ H _ I h) fun v s1 ⟨x, H1, I1, r1, q1⟩ => PyProof.Rows.args_nil ?_) na) na rfl))) rfl) rfl rfl))⟩
  obtain ⟨l, xs, rfl, ht, few, q1⟩ := q1
  obtain rfl : v = Value.ref l := r1
  obtain ⟨its, rv, pl, _⟩ := I1.tuple ht
  refine call_set_tx (I1.ok.hd hc) pl (by simpa using strsAre_of rv) (by unfold scanBound; omega) fun h' tk c hcn hS keep => PyProof.Rows.args_nil ?_
  obtain ⟨o, es, ep, tb, ho, hex, hd, _, _, _, hf, hn⟩ := hS
  have I2 : Inv X pins σ H1 { s1 with heap := h', toks := tk } := I1.kept keep
  obtain ⟨c1, c2⟩ := hcn
  rw [List.take_length] at c2
  exact call_len_set ho hex hd hf (by rw [hn]; omega) ⟨.int c, H1, I2.tok _, ⟨_, by rw [hn]⟩, q1 c c1 c2⟩
end El

set_option Elab.async false
set_option linter.all false
set_option maxRecDepth 100000
set_option maxHeartbeats 4000000
/-! Own words: static methods and callable objects inside a try; exception classes that inherit their __init__. -/
namespace El
open PySem PySem.Spec PyProof.Rows L2
section
variable {X : Cx} {CX : CXT} {k : Nat} {C p g f : Addr} {mc : Value} {fd : FuncData} {ps : List Str} {sp : Sp} {E : L2.St → XK} {o e fe : Expr} {es : List Expr} {m : Str} {pos apos : Pos} {ta tf : TE} {t : TA} {pl : Sem Bool}
theorem code_fnS {pins : List (Addr × Obj)} {σ : L2.St} {H : Hp} {s : Shared} {Q : VK} {us : List Value} {vs : List V} (F : FnOk X.prog X.w X.K X.mg X.base CX k f fd ps sp) (hr : Room k X.A) (hb : Binds X.K fd ps []) (hx : PassesAt CX X σ (E σ))
    (I : Inv X pins σ H s) (r : Vals vs us) (h : sp vs H Q (E σ)) : codeAny (model X.prog X.w) X.A (.call (.ref f) ⟨us, []⟩) (fun r s' => match r with | .ok (.ret u) => EP X pins σ Q u s' | .error e => X.xe e s' | _ => False) s := by
  have hl : us.length = ps.length := by rw [← r.length]; exact F.len _ _ _ _ h
  have b := hb s us I.kIn (by rw [List.append_nil]; exact hl)
  rw [List.append_nil] at b
  refine codeAny_mono (F.run X.A X.stack s H ⟨us, []⟩ us vs Q (E σ) hr I.env0 b r h) fun r s' hq => ?_
  cases r with
  | error e => exact hx pins H s e s' I hq
  | ok fl =>
    cases fl with
    | ret u => exact I.after hq
    | next => exact False.elim hq
    | brk => exact False.elim hq
    | cont => exact False.elim hq
/-- C.m(e, ..), what it lets out being taken where it stands -/
def tSMS (C : Addr) (sp : Sp) (E : L2.St → XK) (ta : TE) (t : TA) : TE := fun σ H Q => ta σ H fun x H1 => x = .ref C ∧ t σ H1 fun vs H2 => sp vs H2 Q (E σ)
theorem pe_smethS (he : PE X o ta) (r : ClX.CRead X.K C mc) (c : SMet X.K C mc m p g) (F : FnOk X.prog X.w X.K X.mg X.base CX k g fd ps sp) (hr : Room k X.A) (hb : Binds X.K fd ps []) (hx : ∀ σ, PassesAt CX X σ (E σ)) (ha : PA X (e :: es) t)
    (hst : starEach (e :: es) X.env = (false, eval e X.env) :: starEach es X.env := by rfl) (hpl : (backTo pos (starEach es X.env)).any (·.1) = false := by rfl)
    (ht : eval (.Call (.Attribute o m apos) (e :: es) [] pos) X.env = (do
      let ov ← eval o X.env
      standAt apos.atName
      let (f, first) ← holding [ov] (getMethod ov m pl)
      callWith pos f first (backTo pos (starEach (e :: es) X.env)) (backToKw pos (keywordEach [] X.env))) := by rfl) :
    PE X (.Call (.Attribute o m apos) (e :: es) [] pos) (tSMS C sp E ta t) := by
  refine ⟨fun pins s σ H Q I h => ?_⟩
  refine PySem.W.methodCall_KW (pl := pl) (thn (he.run pins s σ H _ I h) fun u s1 ⟨x, H1, I1, rx, ex, q⟩ => ?_) ht
  subst ex
  obtain rfl : u = Value.ref C := rx
  refine getsm_ok I1 r c fun s2 I2 => ?_
  refine PySem.W.callWith_K (h₀ := X.base) I2.ok.mod.kin c.kp (thn (ha.run pos pins s2 σ H1 _ I2 q) fun us s3 ⟨vs, H2, I3, rv, q2⟩ => ⟨I3.kIn, ?_⟩) hst hpl
  exact run_fnS F hr hb (hx σ) I3 rv q2
/-- f(e, ..), f an instance of C, what it lets out being taken where it stands -/
def tCallOS (C : Addr) (sp : Sp) (E : L2.St → XK) (tf : TE) (t : TA) : TE := fun σ H Q => tf σ H fun y H1 => ∃ a, y = V.ref a ∧ t σ H1 fun vs H2 => (∃ dx fs, H2 a = some (.ins C dx fs)) ∧ sp (V.ref a :: vs) H2 Q (E σ)
theorem pe_callOS (hf : PE X fe tf) (c : StX.CallO X.K C g) (F : FnOk X.prog X.w X.K X.mg X.base CX k g fd ps sp) (hb : Binds X.K fd ps []) (hr : Room k X.A) (hx : ∀ σ, PassesAt CX X σ (E σ)) (ha : PA X (e :: es) t)
    (ht : eval (.Call fe (e :: es) [] pos) X.env = (do callWith pos (← eval fe X.env) [] (backTo pos (starEach (e :: es) X.env)) (backToKw pos (keywordEach [] X.env))) := by rfl)
    (he : starEach (e :: es) X.env = (false, eval e X.env) :: starEach es X.env := by rfl) (hpl : (backTo pos (starEach es X.env)).any (·.1) = false := by rfl) : PE X (.Call fe (e :: es) [] pos) (tCallOS C sp E tf t) := by
  refine ⟨fun pins s σ H Q I h => ?_⟩
  refine Call_ (thn (hf.run pins s σ H _ I h) fun u s1 ⟨y, H1, I1, ry, a, ey, q⟩ => ?_) ht
  subst ey
  obtain rfl : u = Value.ref a := ry
  refine StX.callO_with (thn (ha.run pos pins s1 σ H1 _ I1 q) fun us s2 ⟨vs, H2, I2, r, hi, q2⟩ => ?_) he hpl
  obtain ⟨ox, od, J, hd⟩ := StX.insC_at I2 (.inr hi)
  refine ⟨⟨C, ox, od, J, hd⟩, ?_⟩
  refine wpAny_call (PySem.W.kco_code I2.kIn J hd c.at_ c.fn c.fi (codeAny_mono (code_fnS (us := .ref a :: us) (vs := .ref a :: vs) F hr hb (hx σ) I2 (.cons rfl r) q2) fun r s' h => ?_))
  cases r with
  | error e => exact h
  | ok fl =>
    cases fl with
    | ret u => exact h
    | next => exact False.elim h
    | brk => exact False.elim h
    | cont => exact False.elim h
end

/-! ### an exception class C whose __init__ is that of D above it -/
open NdefX
structure ExI (K : PySem.W.Frag) (C D fI : Addr) (fields : List Str) : Prop where
  oex : OexC K C
  sup : PySem.W.ks_superIn K C D "__init__" = some (some (.builtin "ValueError.__init__"))
  subV : PySem.W.subIn K (.ref C) (.type "ValueError") = some true
  mro : PySem.W.mroIn K C (.ref D) = some true
  iC : PySem.W.findIn K (.ref C) "__init__" = some (some (.ref fI))
  tI : PySem.W.typeIn K (.ref fI) = some (.type "function")
  no : ∀ f ∈ fields, PySem.W.findIn K (.ref C) f = some none
  xf : XfC K C
  is : ExcC K C
theorem exi_mk {K : PySem.W.Frag} {C D fI N : Addr} {fields : List Str} {nm q : Str} {bs bm : List Value} {sn : List Str} {sub : List Value} {ab : Bool} {col : Option Bool} {dd : Option Addr} {k0 k1 k2 k3 k5 : Option Value}
    (cls : K.lookup C = some (excClassObj nm q C N bs bm true sn sub ab col dd k0 k1 k2 k3 k5 "ValueError.__new__")) (ref : PySem.HandSPX.refsVE bm = true)
    (sa : PySem.W.findIn K (.ref C) "__setattr__" = some (some (.builtin "object.__setattr__"))) (exC : PySem.W.subIn K (.ref C) (.type "BaseException") = some true) (tyC : PySem.W.typeIn K (.ref C) = some (.type "type")) (kC : PySem.W.keepIn K (.ref C) = true)
    (sup : PySem.W.ks_superIn K C D "__init__" = some (some (.builtin "ValueError.__init__"))) (subV : PySem.W.subIn K (.ref C) (.type "ValueError") = some true) (mro : PySem.W.mroIn K C (.ref D) = some true)
    (iC : PySem.W.findIn K (.ref C) "__init__" = some (some (.ref fI))) (tI : PySem.W.typeIn K (.ref fI) = some (.type "function")) (no : ∀ f ∈ fields, PySem.W.findIn K (.ref C) f = some none)
    (ga : PySem.W.findIn K (.ref C) "__getattribute__" = some (some (.builtin "BaseException.__getattribute__"))) (gg : PySem.W.findIn K (.ref C) "__getattr__" = some none) (hd : PySem.W.hasDictIn K C = true)
    (hcl : PySem.W.findIn K (.ref C) "__class__" = some (some (.builtin "object.__class__"))) (hn : PySem.W.specialIn K (.builtin "object.__class__") "__get__" = some (some (.builtin "getset_descriptor.__get__"))) (ht : PySem.W.takesIn K (.builtin "object.__class__") = some true) (hm : PySem.W.mroIn K C (.type "object") = some true) : ExI K C D fI fields :=
  ⟨⟨⟨nm, q, N, bs, bm, sn, sub, ab, col, dd, k0, k1, k2, k3, k5, cls, ref⟩, sa, exC, tyC, kC⟩, sup, subV, mro, iC, tI, no, ⟨ga, gg, exC, hd⟩, ⟨ga, gg, exC, hd, hcl, hn, ht, hm⟩⟩
structure CalEI (P : Program) (w : World) (K : PySem.W.Frag) (mg : Str → Option Value) (base : Heap) (k : Nat) (x : Str) (C f : Addr) (fd : FuncData) (ps : List Str) (ok : List V → Prop) (fs : List V → List (Str × V)) (fields : List Str) : Prop where
  G : FnOk P w K mg base CX0 k f fd ps (spE C ok fs)
  b : Binds K fd ps []
  X : ∃ D, ExI K C D f fields
  m : mg x = some (.ref C)
theorem CalEI.oex {P : Program} {w : World} {K : PySem.W.Frag} {mg : Str → Option Value} {base : Heap} {k : Nat} {x : Str} {C f : Addr} {fd : FuncData} {ps : List Str} {ok : List V → Prop} {fs : List V → List (Str × V)} {fields : List Str} (c : CalEI P w K mg base k x C f fd ps ok fs fields) : OexC K C := by obtain ⟨D, X⟩ := c.X; exact X.oex
theorem CalEI.iC {P : Program} {w : World} {K : PySem.W.Frag} {mg : Str → Option Value} {base : Heap} {k : Nat} {x : Str} {C f : Addr} {fd : FuncData} {ps : List Str} {ok : List V → Prop} {fs : List V → List (Str × V)} {fields : List Str} (c : CalEI P w K mg base k x C f fd ps ok fs fields) : PySem.W.findIn K (.ref C) "__init__" = some (some (.ref f)) := by obtain ⟨D, X⟩ := c.X; exact X.iC
theorem CalEI.tI {P : Program} {w : World} {K : PySem.W.Frag} {mg : Str → Option Value} {base : Heap} {k : Nat} {x : Str} {C f : Addr} {fd : FuncData} {ps : List Str} {ok : List V → Prop} {fs : List V → List (Str × V)} {fields : List Str} (c : CalEI P w K mg base k x C f fd ps ok fs fields) : PySem.W.typeIn K (.ref f) = some (.type "function") := by obtain ⟨D, X⟩ := c.X; exact X.tI
/-! ### characters whose repr is bounded -/
def Asc (z : Str) : Prop := ∀ c ∈ z.cps.toList, c < 16 ^ 8
theorem repr_le {z : Str} (h : Asc z) (hl : z.length ≤ 1000) : (reprText z).length ≤ 10002 := Nat.le_trans (PySem.StrLaws.reprText_len z h) (by omega)
end El

set_option Elab.async false
set_option linter.all false
set_option maxRecDepth 100000
set_option maxHeartbeats 4000000
/-! Own words: len(set(t)) of a tuple of tuples of texts. -/
namespace El
open PySem PySem.Spec PyProof.Rows L2

/-! ### the way of a search, said of places alone -/
abbrev stt (t : SetTable) (h : Int) (c : Nat) : SetTable.Probe := nth t.mask (runAt t.mask (SetTable.bits h % (t.mask + 1)) (SetTable.bits h)) c
theorem stt_on (t : SetTable) (h : Int) (c q : Nat) : nth t.mask (stt t h c) q = stt t h (c + q) := (nth_add t.mask c _ q).symm
theorem adv_clean {m : Nat} {p : SetTable.Probe} (h : p.dummy = none) : (adv m p).dummy = none := by
  unfold adv
  split
  · exact h
  · exact h
theorem nth_clean (m : Nat) : ∀ (n : Nat) (p : SetTable.Probe), p.dummy = none → (nth m p n).dummy = none
  | 0, _, h => h
  | n + 1, p, h => nth_clean m n (adv m p) (adv_clean h)
theorem probe_at {t : SetTable} {rows : List Int} (T : TabOk t rows) (at_ : Nat → Int) (h : Int) {K c : Nat} (kf : K < 10 * SetTable.turns t.mask) (kn : way t.mask h K ∉ t.place.toList) (kb : ∀ q, q < K → way t.mask h q ∈ t.place.toList) (hc : c ≤ K) :
    (∃ q i, c ≤ q ∧ q < K ∧ t.place.toList[i]? = some (way t.mask h q) ∧ at_ i = h ∧ (∀ q' i', c ≤ q' → q' < q → t.place.toList[i']? = some (way t.mask h q') → at_ i' ≠ h) ∧ t.probe at_ h (stt t h c) = some (.candidate (way t.mask h q) i (stt t h (q + 1)))) ∨
    ((∀ q' i', c ≤ q' → q' < K → t.place.toList[i']? = some (way t.mask h q') → at_ i' ≠ h) ∧ t.probe at_ h (stt t h c) = some (.empty (way t.mask h K) none)) := by
  have mv : ∀ q, (nth t.mask (stt t h c) q).j = way t.mask h (c + q) := fun q => congrArg SetTable.Probe.j (stt_on t h c q)
  have back : ∀ q', c ≤ q' → way t.mask h q' = (nth t.mask (stt t h c) (q' - c)).j := fun q' hq => by
    rw [mv]
    exact congrArg (way t.mask h) (by omega)
  rcases go_spec t T.ris T.dm at_ h (10 * SetTable.turns t.mask) (K - c) (stt t h c) (nth_clean _ _ _ rfl) (by omega) (fun q hq => by rw [mv]; exact kb _ (by omega)) (by rw [← back K hc]; exact kn) with ⟨q, i, l, e1, e2, free, e3⟩ | ⟨free, e3⟩
  · refine .inl ⟨c + q, i, Nat.le_add_right _ _, by omega, by rw [← mv]; exact e1, e2, fun q' i' a b d => free (q' - c) i' (by omega) (by rw [← back q' a]; exact d), ?_⟩
    rw [mv, stt_on] at e3
    exact e3
  · refine .inr ⟨fun q' i' a b d => free (q' - c) i' (by omega) (by rw [← back q' a]; exact d), ?_⟩
    rw [← back K hc] at e3
    exact e3

section
variable {P : Program} {w : World} {A : Around} {E : Value → Shared → Prop} {s : Shared}
/-- the tuple at b holds the texts k -/
abbrev Tk (P : Program) (w : World) (h : Heap) (k : List Str) (b : Addr) : Prop := IsTupleKey (PySem.strKind P w) h k b
abbrev hs (P : Program) (w : World) (k : List Str) : Int := tupleKeyHash (PySem.strKind P w) k
def Txs (vs : List Value) : Prop := ∀ v ∈ vs, ∃ x t, v = Value.str x t
theorem Txs.of {k : List Str} {vs : List Value} (h : ItemsAre (PySem.strKind P w) k vs) : Txs vs := by
  induction h with
  | nil => exact fun _ z => nomatch z
  | cons one _ more =>
    intro v hv
    cases hv with
    | head => obtain ⟨t, e⟩ := Value.isStrOf_shape one; exact ⟨_, t, e⟩
    | tail _ hv => exact more v hv
theorem Txs.tl {v : Value} {vs : List Value} (h : Txs (v :: vs)) : Txs vs := fun u hu => h u (List.mem_cons_of_mem _ hu)
theorem class_tx (n : Nat) (x : Str) (t : Tok) : ofAClassStatement n (.str x t) = pure false := by cases n <;> rfl
theorem byval_tx (n : Nat) (x : Str) (t : Tok) : hashByValue n (.str x t) = pure false := by cases n <;> simp [hashByValue]
theorem class_tk {k : List Str} {b : Addr} {Q : Bool → Shared → Prop} (hk : Tk P w s.heap k b) (q : Q false s) : wpAny (model P w) A (ofAClassStatement 8 (.ref b)) Q E s := by
  have ty := hk.typeIs
  obtain ⟨ob, its, c, e1, _, e2, e3⟩ := hk
  have tx := Txs.of e3
  unfold ofAClassStatement
  refine wpAny_bind (wpAny_typeOf ty ?_)
  have same : (("tuple" : String) == "tuple") = true := by decide
  simp only [same, if_true, Bool.not_true, Bool.false_eq_true, if_false]
  try refine wpAny_bind (wpAny_pure ?_)
  try simp only [Bool.not_true, Bool.false_eq_true, if_false]
  refine wpAny_bind (m := seqItems? (.ref b)) (wpAny_seqItems e1 e2 ?_)
  refine wpAny_bind ?_
  show wpAny _ _ (forIn its _ _) _ _ s
  rw [← Array.forIn_toList]
  refine wpAny_forIn_list _ (fun left st s1 => Txs left ∧ st.1 = none ∧ s1 = s) _ (fun v left st s1 => ?_) (fun st s1 => ?_) _ _ ⟨tx, rfl, rfl⟩
  · rintro ⟨tx, e, rfl⟩
    obtain ⟨x, t, rfl⟩ := tx v List.mem_cons_self
    rw [class_tx]
    refine wpAny_bind (wpAny_pure ?_)
    simp only [Bool.false_eq_true, if_false]
    exact wpAny_pure ⟨tx.tl, rfl, rfl⟩
  · obtain ⟨u1, u2⟩ := st
    rintro ⟨_, e, rfl⟩
    cases (show u1 = none from e)
    exact wpAny_pure q
theorem byval_tk {k : List Str} {b : Addr} {Q : Bool → Shared → Prop} (hk : Tk P w s.heap k b) (q : ∀ c, Q c s) : wpAny (model P w) A (hashByValue 8 (.ref b)) Q E s := by
  have ty := hk.typeIs
  obtain ⟨ob, its, c, e1, _, e2, e3⟩ := hk
  have tx := Txs.of e3
  unfold hashByValue
  refine wpAny_bind (wpAny_specialOf ty PySem.F.slot_tuple_hash.lookup ?_)
  refine wpAny_bind (m := seqItems? (.ref b)) (wpAny_seqItems e1 e2 ?_)
  refine wpAny_bind ?_
  show wpAny _ _ (forIn its _ _) _ _ s
  rw [← Array.forIn_toList]
  refine wpAny_forIn_list _ (fun left st s1 => Txs left ∧ s1 = s) _ (fun v left st s1 => ?_) (fun st s1 => ?_) _ _ ⟨tx, rfl⟩
  · rintro ⟨tx, rfl⟩
    obtain ⟨x, t, rfl⟩ := tx v List.mem_cons_self
    rw [byval_tx]
    refine wpAny_bind (wpAny_pure ?_)
    simp only [Bool.not_false, if_true]
    exact wpAny_pure (wpAny_pure (q _))
  · obtain ⟨u1, u2⟩ := st
    rintro ⟨_, rfl⟩
    cases u1 with
    | none => exact wpAny_pure (q _)
    | some c => exact wpAny_pure (q _)
def Tks (P : Program) (w : World) (h : Heap) (vs : List Value) : Prop := ∀ v ∈ vs, ∃ k b, v = Value.ref b ∧ Tk P w h k b
theorem seen_tk {k : List Str} {b : Addr} {Q : Bool → Shared → Prop} (hk : Tk P w s.heap k b) {vs : List Value} (hv : Tks P w s.heap vs) (q : Q false s) : wpAny (model P w) A (searchCouldBeSeen (.ref b) vs) Q E s := by
  unfold searchCouldBeSeen
  refine wpAny_bind (wpAny_forIn_list _ (fun left st s1 => Tks P w s.heap left ∧ st.1 = none ∧ s1 = s) _ (fun v left st s1 => ?_) (fun st s1 => ?_) _ _ ⟨hv, rfl, rfl⟩)
  · rintro ⟨hv, e, rfl⟩
    obtain ⟨k2, c, rfl, hc⟩ := hv v List.mem_cons_self
    have fin : Tks P w s1.heap left ∧ (none : Option Bool) = none ∧ s1 = s1 := ⟨fun u hu => hv u (List.mem_cons_of_mem _ hu), rfl, rfl⟩
    dsimp only
    by_cases z : (b == c || (carriedByValue (.ref b) && carriedByValue (.ref c))) = true
    · exact wp_if_pos z (wpAny_pure fin)
    · refine wp_if_neg z (wpAny_bind (wpAny_eqIsQuiet_tuple hk ?_))
      simp only [Bool.not_true, Bool.false_eq_true, if_false]
      refine wpAny_bind (wpAny_eqIsQuiet_tuple hc ?_)
      simp only [Bool.not_true, Bool.false_eq_true, if_false]
      refine wpAny_bind (class_tk hk ?_)
      simp only [Bool.false_eq_true, if_false]
      refine wpAny_bind (class_tk hc ?_)
      simp only [Bool.false_eq_true, if_false]
      exact wpAny_pure fin
  · obtain ⟨u1, u2⟩ := st
    rintro ⟨_, e, rfl⟩
    cases (show u1 = none from e)
    exact wpAny_pure q

/-! ### a set of tuples of texts -/
def row (P : Program) (w : World) (p : Addr × List Str) : Int × Value := (hs P w p.2, Value.ref p.1)
structure Bag (P : Program) (w : World) (h : Heap) (a : Addr) (L : List (Addr × List Str)) (es : Array (Int × Value)) (ep : Nat) (t : SetTable) : Prop where
  ob : ∃ o, h.get? a = some o ∧ o.ExactSet ∧ o.data = .set es ep t
  rows : es.toList = L.map (row P w)
  tab : TabOk t (L.map fun p => hs P w p.2)
  led : w.params.followText "set-order" = true ∨ t.led = true
  room : L.length * 5 < t.mask * 3
  few : L.length < 64
  tk : ∀ p ∈ L, Tk P w h p.2 p.1
  nd : (L.map (·.2)).Nodup
variable {a : Addr} {L : List (Addr × List Str)} {es : Array (Int × Value)} {ep : Nat} {t : SetTable}
theorem size_rows (e : es.toList = L.map (row P w)) : es.size = L.length := by
  rw [← Array.length_toList, e, List.length_map]
theorem fits_of (e : es.toList = L.map (row P w)) (z : t.place.size = L.length) (d : t.dummies = #[]) (l : L.length ≤ t.mask) : t.fits es.size = true := by
  unfold SetTable.fits SetTable.fill
  rw [d, size_rows e, z, Bool.and_eq_true, beq_iff_eq, decide_eq_true_eq]
  exact ⟨rfl, l⟩
theorem Bag.szp (B : Bag P w s.heap a L es ep t) : t.place.size = L.length := by rw [B.tab.sz, List.length_map]
theorem Bag.lem (B : Bag P w s.heap a L es ep t) : L.length ≤ t.mask := by have := B.room; omega
theorem Bag.fits (B : Bag P w s.heap a L es ep t) : t.fits es.size = true := fits_of B.rows B.szp B.tab.dm B.lem
theorem row_at (e : es.toList = L.map (row P w)) {i : Nat} {p : Addr × List Str} (h : L[i]? = some p) : es[i]? = some (row P w p) := by
  rw [← Array.getElem?_toList, e, List.getElem?_map, h]
  rfl
/-- the search for k from step c of its way on -/
theorem seek (B : Bag P w s.heap a L es ep t) {x : Addr} {k : List Str} (hx : Tk P w s.heap k x) (hu : A.units < cLine) {K : Nat} (kf : K < 10 * SetTable.turns t.mask) (kn : way t.mask (hs P w k) K ∉ t.place.toList) (kb : ∀ q, q < K → way t.mask (hs P w k) q ∈ t.place.toList)
    {Q : SetFound → Shared → Prop} (yes : k ∈ L.map (·.2) → Q (.there none) s) (no : k ∉ L.map (·.2) → Q (.free (way t.mask (hs P w k) K) false) s) :
    ∀ (f c : Nat) (from_ : Option SetTable.Probe), from_.getD (t.probeStart (hs P w k)) = stt t (hs P w k) c → c ≤ K → K - c < f →
      (∀ (i : Nat) (p : Addr × List Str), L[i]? = some p → p.2 = k → ∃ q, c ≤ q ∧ q < K ∧ t.place.toList[i]? = some (way t.mask (hs P w k) q)) → wpAny (model P w) A (setSearchFrom a (.ref x) (hs P w k) true f from_) Q E s := by
  intro f
  induction f with
  | zero => exact fun c _ _ _ h => absurd h (Nat.not_lt_zero _)
  | succ f ih =>
    intro c from_ ef hc hf ahead
    obtain ⟨o, e1, e2, e3⟩ := B.ob
    have ld : ∀ {R : Array (Int × Value) × Nat × SetTable → Shared → Prop}, R (es, ep, t) s → wpAny (model P w) A (setState a) R E s := fun r => wpAny_setState_of e1 e3 B.fits r
    rw [setSearchFrom_succ]
    refine wpAny_bind (ld ?_)
    dsimp only
    refine wp_if_neg (by unfold SetTable.gaveWay; rw [mask_odd B.tab.mok]; decide) ?_
    try refine wpAny_bind (wpAny_pure ?_)
    have hat : ∀ (i : Nat) (p : Addr × List Str), L[i]? = some p → (fun i : Nat => (es[i]?.map (·.1)).getD 0) i = hs P w p.2 := fun i p hp => by
      show (es[i]?.map (·.1)).getD 0 = _
      rw [row_at B.rows hp]
      rfl
    rw [ef]
    rcases probe_at B.tab (fun i : Nat => (es[i]?.map (·.1)).getD 0) (hs P w k) kf kn kb hc with ⟨q, i, l1, l2, hi, hh, clear, pr⟩ | ⟨clear, pr⟩
    · rw [pr]
      dsimp only
      have il : i < L.length := by
        have h1 := (List.getElem?_eq_some_iff.mp hi).1
        rw [Array.length_toList, B.szp] at h1
        exact h1
      obtain ⟨p, hp⟩ : ∃ p, L[i]? = some p := ⟨_, List.getElem?_eq_getElem il⟩
      have pm := List.mem_of_getElem? hp
      have go : wpAny (model P w) A (searchRest a (.ref x) (hs P w k) true f es t (way t.mask (hs P w k) q) i (stt t (hs P w k) (q + 1))) Q E s := by
        unfold searchRest
        rw [row_at B.rows hp]
        dsimp only [row]
        refine wpAny_bind (wpAny_holding (wpAny_eqBool_tuple hu (B.tk p pm) hx (wpAny_bind (ld ?_))))
        dsimp only
        by_cases hk : p.2 = k
        · exact wp_if_pos (by simp [hk]) (wpAny_pure (yes (List.mem_map.mpr ⟨p, pm, hk⟩)))
        refine wp_if_neg (by simp [hk]) ?_
        try refine wpAny_bind (wpAny_pure ?_)
        rw [sameMem]
        have live : t.slot (way t.mask (hs P w k) q) = .live i := slot_live B.tab.ris hi
        simp only [if_true, live, row_at B.rows hp, row]
        refine wpAny_bind (wpAny_isSame_ref_self (wpAny_bind (wpAny_pure ?_)))
        simp only [if_true]
        refine wp_if_neg (by simp [hk]) (ih (q + 1) _ rfl l2 (by omega) fun i0 p0 h0 k0 => ?_)
        obtain ⟨q0, a1, a2, a3⟩ := ahead i0 p0 h0 k0
        refine ⟨q0, Nat.lt_of_le_of_ne (Nat.le_of_not_lt fun z => clear q0 i0 a1 z a3 ((hat i0 p0 h0).trans (congrArg (hs P w) k0))) fun z => hk ?_, a2, a3⟩
        have s0 := slot_live B.tab.ris a3
        rw [← z, live] at s0
        cases s0
        cases hp.symm.trans h0
        exact k0
      by_cases hl : t.led = true
      · refine wp_if_neg (by simp [hl]) ?_
        try refine wpAny_bind (wpAny_pure ?_)
        exact go
      · refine wp_if_pos (by simp [hl]) (wpAny_bind (seen_tk hx (fun v hv => ?_) ?_))
        · obtain ⟨r, hr, rfl⟩ := List.mem_map.mp hv
          have hr : r ∈ es := (by simpa using hr : r ∈ es ∧ r.1 = hs P w k).1
          have hr : r ∈ es.toList := by simpa using hr
          rw [B.rows] at hr
          obtain ⟨p2, m2, rfl⟩ := List.mem_map.mp hr
          exact ⟨p2.2, p2.1, rfl, B.tk p2 m2⟩
        · refine wp_if_neg (by decide) ?_
          try refine wpAny_bind (wpAny_pure ?_)
          exact go
    · rw [pr]
      refine wpAny_pure (no fun hm => ?_)
      obtain ⟨p0, m0, k0⟩ := List.mem_map.mp hm
      obtain ⟨i0, l0, h0⟩ := List.getElem_of_mem m0
      have h0 : L[i0]? = some p0 := by rw [List.getElem?_eq_getElem l0, h0]
      obtain ⟨q0, a1, a2, a3⟩ := ahead i0 p0 h0 k0
      exact clear q0 i0 a1 a2 a3 ((hat i0 p0 h0).trans (congrArg (hs P w) k0))
theorem sought (B : Bag P w s.heap a L es ep t) {x : Addr} {k : List Str} (hx : Tk P w s.heap k x) (hu : A.units < cLine) {Q : SetFound → Shared → Prop} (yes : k ∈ L.map (·.2) → Q (.there none) s)
    (no : ∀ K, k ∉ L.map (·.2) → way t.mask (hs P w k) K ∉ t.place.toList → (∀ q, q < K → way t.mask (hs P w k) q ∈ t.place.toList) → Q (.free (way t.mask (hs P w k) K) false) s) :
    wpAny (model P w) A (setSearch a (.ref x) (hs P w k) true) Q E s := by
  obtain ⟨K, kf, kn, kb⟩ := B.tab.first (by rw [List.length_map]; exact B.lem) (hs P w k)
  have small : K < 100000 := by
    have : SetTable.turns t.mask ≤ 142 := by
      unfold SetTable.turns
      rcases B.tab.mok with e | e | e <;> omega
    omega
  refine seek B hx hu kf kn kb yes (fun n => no K n kn kb) 100000 0 none rfl (Nat.zero_le _) small fun i p hp hk => ?_
  have il : i < t.place.toList.length := by
    rw [Array.length_toList, B.szp]
    exact (List.getElem?_eq_some_iff.mp hp).1
  obtain ⟨q, l, e⟩ := B.tab.before (h := hs P w k) kn (by rw [List.getElem?_map, hp, ← hk]; rfl) (List.getElem?_eq_getElem il)
  exact ⟨q, Nat.zero_le _, l, by rw [e]; exact List.getElem?_eq_getElem il⟩

/-! ### the table laid anew -/
theorem all_of_range {α : Type} : ∀ L : List α, (List.range L.length).filterMap (fun i => L[i]?) = L
  | [] => rfl
  | x :: r => by
    rw [List.length_cons, List.range_succ_eq_map, List.filterMap_cons_some (f := fun i => (x :: r)[i]?) (b := x) rfl, List.filterMap_map]
    exact congrArg (x :: ·) (all_of_range r)
theorem picked {f : Addr × List Str → Int} (g : Nat → Int) (hg : ∀ (i : Nat) (p : Addr × List Str), L[i]? = some p → g i = f p) : ∀ l : List Nat, (∀ i ∈ l, i < L.length) → (l.filterMap fun i => L[i]?).map f = l.map g
  | [], _ => rfl
  | i :: l, h => by
    obtain ⟨p, e⟩ : ∃ p, L[i]? = some p := ⟨_, List.getElem?_eq_getElem (h i List.mem_cons_self)⟩
    rw [List.filterMap_cons_some e, List.map_cons, List.map_cons, picked g hg l fun j hj => h j (List.mem_cons_of_mem _ hj), hg i p e]
theorem tk_but {h h' : Heap} {k : List Str} {b : Addr} {o : Obj} (z : Tk P w h k b) (ho : h.get? a = some o) (hd : o.data = .set es ep t) (sb : Heap.SameBut a h h') : Tk P w h' k b := by
  obtain ⟨o2, its, c, e1, e2, e3, e4⟩ := z
  refine ⟨o2, its, c, (sb.2 b fun e => ?_).trans e1, e2, e3, e4⟩
  cases (e ▸ e1 : h.get? a = some o2).symm.trans ho
  rw [hd] at e3
  cases e3
theorem relaid_at {o : Obj} (ho : s.heap.get? a = some o) (hx : o.ExactSet) (hd : o.data = .set es ep t) (rows : es.toList = L.map (row P w)) (zp : t.place.size = L.length) (dm : t.dummies = #[]) (lm : L.length ≤ t.mask)
    (led : w.params.followText "set-order" = true ∨ t.led = true) (few : L.length < 64) (tk : ∀ p ∈ L, Tk P w s.heap p.2 p.1) (nd : (L.map (·.2)).Nodup) {wanted M : Nat} (hw : SetTable.sizeAbove wanted = M + 1) (mok : MaskOk M) (room : L.length * 5 < M * 3)
    {Q : Unit → Shared → Prop} (q : ∀ h' L' es' ep' t', Heap.SameBut a s.heap h' → Bag P w h' a L' es' ep' t' → L'.Perm L → Q () { s with heap := h' }) : wpAny (model P w) A (setRelay a wanted) Q E s := by
  have zs := size_rows rows
  have M128 : M + 1 ≤ 128 := by rcases mok with e | e | e <;> omega
  obtain ⟨t2, order, e1, pm, T, em, el, _, _⟩ := relaid_ok t (hs := es.map (·.1)) (wanted := wanted) (by rw [hw]; rfl) mok (by rw [Array.size_map, zs]; omega)
  rw [Array.size_map, zs] at pm
  have below : ∀ i ∈ order.toList, i < L.length := fun i hi => List.mem_range.mp (pm.mem_iff.mp hi)
  have same : ∀ i : Nat, es[i]? = (L[i]?).map (row P w) := fun i => by rw [← Array.getElem?_toList, rows, List.getElem?_map]
  have rows2 : (order.filterMap (es[·]?)).toList = (order.toList.filterMap fun i => L[i]?).map (row P w) := by
    rw [Array.toList_filterMap, List.map_filterMap]
    exact congrArg (fun f => List.filterMap f order.toList) (funext same)
  have pl : (order.toList.filterMap fun i => L[i]?).Perm L := by
    have z := pm.filterMap fun i => L[i]?
    rw [all_of_range] at z
    exact z
  rw [← picked (L := L) (f := fun p => hs P w p.2) _ (fun i p hp => by
    have z : (es.map (·.1))[i]? = some (hs P w p.2) := by
      rw [Array.getElem?_map, same, hp]
      rfl
    rw [Array.getD_eq_getD_getElem?, z]
    rfl) order.toList below] at T
  generalize (order.toList.filterMap fun i => L[i]?) = L2 at rows2 pl T
  have z2 : (order.filterMap (es[·]?)).size = es.size := by rw [size_rows rows2, zs, pl.length_eq]
  rw [setRelay_eq]
  refine wpAny_bind (wpAny_setState_of ho hd (fits_of rows zp dm lm) ?_)
  dsimp only
  refine wp_if_neg (by rw [hw, sizeLine_eq]; omega) ?_
  try refine wpAny_bind (wpAny_pure ?_)
  rw [e1]
  refine wpAny_bind (wp_if_neg (by rw [z2]; simp) ?_)
  try refine wpAny_bind (wpAny_pure ?_)
  refine wpAny_pure (wpAny_storeSet_of ho hd ?_ (by rw [z2, zs, sizeLine_eq]; omega))
  have sb : Heap.SameBut a s.heap (s.heap.update a (Obj.putSet (order.filterMap (es[·]?)) t2)) := Heap.SameBut.update ..
  refine q _ L2 _ (ep + 1) t2 sb ⟨⟨_, store_at ho hd, ⟨hx.1, hx.2.1, hx.2.2⟩, rfl⟩, rows2, T, by rw [el]; exact led, by rw [pl.length_eq, em]; exact room, by rw [pl.length_eq]; exact few, fun p hp => tk_but (tk p (pl.mem_iff.mp hp)) ho hd sb, ?_⟩ pl
  exact (pl.map (·.2)).nodup_iff.mpr nd

/-! ### one more -/
theorem tab_plain {t : SetTable} {rows : List Int} (T : TabOk t rows) (b : Bool) : TabOk { t with plain := b } rows := ⟨T.ris, T.dm, T.sz, T.mok, T.bd, T.reach⟩
theorem added (B : Bag P w s.heap a L es ep t) {x : Addr} {k : List Str} (hx : Tk P w s.heap k x) (hu : A.units < cLine) (few : L.length + 1 < 64) {Q : Bool → Shared → Prop}
    (q : ∀ b h' L' es' ep' t', Heap.SameBut a s.heap h' → Bag P w h' a L' es' ep' t' → (k ∈ L.map (·.2) → L' = L) → (k ∉ L.map (·.2) → L'.Perm ((x, k) :: L)) → Q b { s with heap := h' }) :
    wpAny (model P w) A (setAddHashed a (.ref x) (hs P w k)) Q E s := by
  obtain ⟨o, e1, e2, e3⟩ := B.ob
  have ld : ∀ {R : Array (Int × Value) × Nat × SetTable → Shared → Prop}, R (es, ep, t) s → wpAny (model P w) A (setState a) R E s := fun r => wpAny_setState_of e1 e3 B.fits r
  unfold setAddHashed
  refine wpAny_holding ?_
  rw [show 100000 = 99999 + 1 from rfl, setAddHashedIn_succ]
  refine wpAny_bind (ld ?_)
  dsimp only
  refine wp_if_neg (by simp [byScan, Value.scannable]) ?_
  try refine wpAny_bind (wpAny_pure ?_)
  refine wpAny_bind (sought B hx hu (fun m => wpAny_pure (q false s.heap L es ep t (Heap.SameBut.refl a s.heap) B (fun _ => rfl) fun z => absurd m z)) fun K m kn kb => wpAny_bind (ld ?_))
  dsimp only
  obtain ⟨p1, p2, T, p4, p5, _, _, _, p9⟩ := B.tab.put kn kb
  rw [List.length_map] at p9
  have tf0 : ∀ b, ({ (t.put (way t.mask (hs P w k) K)).1 with plain := b } : SetTable).fill = L.length + 1 := fun b => p9
  generalize t.put (way t.mask (hs P w k) K) = pt at *
  obtain ⟨t1, at_⟩ := pt
  dsimp only at *
  subst p1
  have rows1 : (SetTable.insertAt es (SetTable.below t.place (way t.mask (hs P w k) K)) (hs P w k, Value.ref x)).toList = (L.take (SetTable.below t.place (way t.mask (hs P w k) K)) ++ (x, k) :: L.drop (SetTable.below t.place (way t.mask (hs P w k) K))).map (row P w) := by
    rw [SetTable.toList_insertAt, B.rows, List.map_append, List.map_cons, List.map_take, List.map_drop]
    rfl
  have T1 : TabOk t1 ((L.take (SetTable.below t.place (way t.mask (hs P w k) K)) ++ (x, k) :: L.drop (SetTable.below t.place (way t.mask (hs P w k) K))).map fun p => hs P w p.2) := by
    rw [List.map_append, List.map_cons, List.map_take, List.map_drop]
    exact T
  have pm := put_perm L (SetTable.below t.place (way t.mask (hs P w k) K)) (x, k)
  generalize SetTable.insertAt es (SetTable.below t.place (way t.mask (hs P w k) K)) (hs P w k, Value.ref x) = es1 at rows1 ⊢
  generalize L.take (SetTable.below t.place (way t.mask (hs P w k) K)) ++ (x, k) :: L.drop (SetTable.below t.place (way t.mask (hs P w k) K)) = L1 at rows1 T1 pm
  have l1 : L1.length = L.length + 1 := pm.length_eq
  have nd1 : (L1.map (·.2)).Nodup := (pm.map (·.2)).nodup_iff.mpr (List.nodup_cons.mpr ⟨m, B.nd⟩)
  have rest : ∀ b : Bool, wpAny (model P w) A (do
      storeSet a es1 (if b then t1 else { t1 with plain := false })
      if !false && (if b then t1 else { t1 with plain := false } : SetTable).tooFull then setRelay a (SetTable.grown (es.size + 1))
      return true) Q E s := fun b => by
    have Tb : TabOk (if b then t1 else { t1 with plain := false } : SetTable) (L1.map fun p => hs P w p.2) := by
      cases b
      · exact tab_plain T1 false
      · exact T1
    have mb : (if b then t1 else { t1 with plain := false } : SetTable).mask = t.mask := by cases b <;> exact p4
    have lb : (if b then t1 else { t1 with plain := false } : SetTable).led = t.led := by cases b <;> exact p5
    have fb : (if b then t1 else { t1 with plain := false } : SetTable).fill = L.length + 1 := by cases b <;> exact p9
    generalize (if b then t1 else { t1 with plain := false } : SetTable) = t2 at Tb mb lb fb ⊢
    refine wpAny_bind (wpAny_storeSet_of e1 e3 ?_ (by rw [size_rows rows1, l1, sizeLine_eq]; omega))
    have sb : Heap.SameBut a s.heap (s.heap.update a (Obj.putSet es1 t2)) := Heap.SameBut.update ..
    have ho := store_at (es' := es1) (t' := t2) e1 e3
    generalize s.heap.update a (Obj.putSet es1 t2) = h1 at sb ho ⊢
    have tk1 : ∀ p ∈ L1, Tk P w h1 p.2 p.1 := fun p hp => by
      cases pm.mem_iff.mp hp with
      | head => exact tk_but hx e1 e3 sb
      | tail _ hp => exact tk_but (B.tk p hp) e1 e3 sb
    have rm := B.room
    by_cases full : t2.tooFull = true
    · have much : t2.mask * 3 ≤ (L.length + 1) * 5 := by
        unfold SetTable.tooFull at full
        rw [decide_eq_true_eq, fb] at full
        exact full
      have at2 : (t.mask = 7 ∧ L.length = 4) ∨ (t.mask = 31 ∧ L.length = 18) := by
        rcases B.tab.mok with e | e | e <;> rw [mb, e] at much <;> rw [e] at rm <;> omega
      have go : ∀ M, SetTable.sizeAbove (SetTable.grown (L.length + 1)) = M + 1 → MaskOk M → L1.length * 5 < M * 3 → wpAny (model P w) A (setRelay a (SetTable.grown (L.length + 1))) (fun _ s1 => wpAny (model P w) A (pure true) Q E s1) E { s with heap := h1 } := fun M z1 z2 z3 =>
        relaid_at (s := { s with heap := h1 }) ho ⟨e2.1, e2.2.1, e2.2.2⟩ rfl rows1 (by rw [Tb.sz, List.length_map]) Tb.dm (by rw [mb, l1]; rcases at2 with ⟨u, v⟩ | ⟨u, v⟩ <;> omega) (by rw [lb]; exact B.led) (by omega) tk1 nd1 z1 z2 z3
          fun h2 L2 es2 ep2 t2 sb2 B2 pm2 => wpAny_pure (q true h2 L2 es2 ep2 t2 (sb.trans sb2) B2 (fun z => absurd z m) fun _ => pm2.trans pm)
      rw [size_rows B.rows]
      have both : wpAny (model P w) A (setRelay a (SetTable.grown (L.length + 1))) (fun _ s1 => wpAny (model P w) A (pure true) Q E s1) E { s with heap := h1 } := by
        rcases at2 with ⟨_, v⟩ | ⟨_, v⟩
        · exact go 31 (by rw [v, size_20]) (.inr (.inl rfl)) (by omega)
        · exact go 127 (by rw [v, size_76]) (.inr (.inr rfl)) (by omega)
      simp only [Bool.not_false, full, Bool.and_self, if_true]
      exact wpAny_bind both
    · simp only [Bool.not_false, full, Bool.true_and, Bool.false_eq_true, if_false]
      refine wpAny_bind (wpAny_pure (wpAny_pure (q true h1 L1 es1 _ t2 sb ⟨⟨_, ho, ⟨e2.1, e2.2.1, e2.2.2⟩, rfl⟩, rows1, Tb, by rw [lb]; exact B.led, ?_, by omega, tk1, nd1⟩ (fun z => absurd z m) fun _ => pm)))
      unfold SetTable.tooFull at full
      rw [decide_eq_true_eq, fb] at full
      omega
  by_cases hp : t1.plain = true
  · refine wp_if_pos hp (wpAny_bind (byval_tk hx fun b => ?_))
    exact rest b
  · refine wp_if_neg hp (wpAny_bind (wpAny_pure ?_))
    exact rest true
end

/-! ### the whole of a tuple -/
/-- what a set has of the first i -/
structure Cov (ks : List (Addr × List Str)) (i : Nat) (L : List (Addr × List Str)) : Prop where
  mem : ∀ k, k ∈ L.map (·.2) ↔ k ∈ (ks.take i).map (·.2)
  le : L.length ≤ i
  full : L.length = i ↔ ((ks.take i).map (·.2)).Nodup
theorem Cov.nil (ks : List (Addr × List Str)) : Cov ks 0 [] := ⟨fun _ => Iff.rfl, Nat.le_refl _, by simp⟩
theorem Cov.more {ks L L' : List (Addr × List Str)} {i : Nat} {x : Addr × List Str} (c : Cov ks i L) (e : ks[i]? = some x) (h1 : x.2 ∈ L.map (·.2) → L' = L) (h2 : x.2 ∉ L.map (·.2) → L'.Perm ((x.1, x.2) :: L)) : Cov ks (i + 1) L' := by
  have tk : (ks.take (i + 1)).map (·.2) = (ks.take i).map (·.2) ++ [x.2] := by
    rw [List.take_add_one, e, List.map_append]
    rfl
  have nd : ((ks.take (i + 1)).map (·.2)).Nodup ↔ ((ks.take i).map (·.2)).Nodup ∧ x.2 ∉ L.map (·.2) := by
    rw [tk, List.nodup_append]
    constructor
    · rintro ⟨a, _, b⟩
      exact ⟨a, fun h => b _ ((c.mem _).mp h) _ (List.mem_singleton.mpr rfl) rfl⟩
    · rintro ⟨a, b⟩
      refine ⟨a, by simp, fun y hy z hz q => b ((c.mem _).mpr ?_)⟩
      rw [← List.mem_singleton.mp hz, ← q]
      exact hy
  by_cases h : x.2 ∈ L.map (·.2)
  · cases h1 h
    refine ⟨fun k => ?_, Nat.le_succ_of_le c.le, ?_⟩
    · rw [tk, List.mem_append, List.mem_singleton, ← c.mem]
      exact ⟨.inl, fun z => z.elim id fun z => z ▸ h⟩
    · rw [nd]
      have := c.le
      exact ⟨fun z => absurd z (by omega), fun z => absurd h z.2⟩
  · have pm := h2 h
    refine ⟨fun k => ?_, ?_, ?_⟩
    · rw [(pm.map (·.2)).mem_iff, List.map_cons, List.mem_cons, tk, List.mem_append, List.mem_singleton, ← c.mem]
      exact Or.comm
    · rw [pm.length_eq]
      exact Nat.succ_le_succ c.le
    · rw [nd, pm.length_eq, List.length_cons, Nat.succ_inj, c.full]
      exact ⟨fun z => ⟨z, h⟩, fun z => z.1⟩
section
variable {prog : Program} {w : World} {A : Around} {R : Result → Shared → Prop} {it : Addr} {fp wr : List Addr} {G : Array GenState → Array GenState → Prop} {n : Nat} {Pv : Nat → Value → Prop} {St : Nat → Shared → Prop}
theorem loopTk (W : WalksS prog w A.in1 it fp wr G n Pv St) (b : Addr) (hb : b ∉ fp) (ks : List (Addr × List Str)) (hn : ks.length = n) (few : n < 64) (hv : ∀ (i : Nat) v, Pv i v → ∃ p, ks[i]? = some p ∧ v = .ref p.1) (hu : A.in1.units < cLine)
    (old : Heap) (tk : ∀ p ∈ ks, Tk prog w old p.2 p.1) (nb : old.get? b = none) (nw : ∀ q ∈ wr, old.get? q = none) :
    ∀ (k i : Nat) (s : Shared), n - i = k → i ≤ n → St i s → (∀ q o, old.get? q = some o → s.heap.get? q = some o) → (∃ L es ep t, Cov ks i L ∧ (∀ p ∈ L, p ∈ ks) ∧ Bag prog w s.heap b L es ep t) →
      (∀ s' L es ep t, Moved (b :: wr) G s s' → Cov ks n L → Bag prog w s'.heap b L es ep t → R (.ok (.ret .none)) s') →
      codeAny (model prog w) A (.builtin "set.update.loop" ⟨[.ref b, .ref it], []⟩) R s := by
  have bw : b ∉ wr := fun h => hb (W.sub _ h)
  have ws : ∀ q ∈ wr, q ∈ b :: wr := fun q hq => List.mem_cons_of_mem _ hq
  have kept : ∀ {u v : Heap} {p : Addr × List Str}, Tk prog w u p.2 p.1 → (∀ q o, u.get? q = some o → v.get? q = some o) → Tk prog w v p.2 p.1 := fun ⟨o, its, c, e, r⟩ f => ⟨o, its, c, f _ _ e, r⟩
  have same : ∀ {s1 s2 : Shared} {L es ep t}, Bag prog w s1.heap b L es ep t → Moved wr G s1 s2 → (∀ p ∈ L, p ∈ ks) → (∀ q o, old.get? q = some o → s2.heap.get? q = some o) → Bag prog w s2.heap b L es ep t := fun {s1 s2 L es ep t} B mv sub up => by
    obtain ⟨o, e, r⟩ := B.ob
    exact ⟨⟨o, mv.heap b o bw e, r⟩, B.rows, B.tab, B.led, B.room, B.few, fun p hp => kept (tk p (sub p hp)) up, B.nd⟩
  have up : ∀ {s1 s2 : Shared}, Moved wr G s1 s2 → (∀ q o, old.get? q = some o → s1.heap.get? q = some o) → ∀ q o, old.get? q = some o → s2.heap.get? q = some o := fun mv f q o e => mv.heap q o (fun z => by rw [nw q z] at e; cases e) (f q o e)
  intro k
  induction k with
  | zero =>
    rintro i s hk hi st f ⟨L, es, ep, t, c, sub, B⟩ done
    obtain rfl : i = n := by omega
    refine codeAny_builtin PyProof.Rows.F.entry_set_update_loop ?_
    rw [Around.under_plainId PyProof.Rows.F.plain_set_update_loop _]
    refine wpAny_bind (m := pyNext (.ref it)) (W.done s _ _ st fun s1 mv => ?_)
    exact wpAny_pure (done s1 L es ep t (mv.mono ws) c (same B mv sub (up mv f)))
  | succ k ih =>
    rintro i s hk hi st f ⟨L, es, ep, t, c, sub, B⟩ done
    have lt : i < n := by omega
    refine codeAny_builtin PyProof.Rows.F.entry_set_update_loop ?_
    rw [Around.under_plainId PyProof.Rows.F.plain_set_update_loop _]
    refine wpAny_bind (m := pyNext (.ref it)) (W.item i s _ _ lt st fun v s1 pv st1 mv => ?_)
    obtain ⟨p, ei, rfl⟩ := hv i v pv
    have B1 := same B mv sub (up mv f)
    have tp := kept (tk p (List.mem_of_getElem? ei)) (up mv f)
    refine wpAny_bind (m := holding [Value.ref p.1] (setAdd b (.ref p.1))) (wpAny_holding ?_)
    unfold setAdd
    refine wpAny_holding (wpAny_bind (wpAny_pyHash_tuple hu tp ?_))
    refine added (s := { s1 with toks := s1.toks + (p.2.length + 1) }) B1 tp hu (by have := c.le; omega) fun z h' L' es' ep' t' sb B2 c1 c2 => ?_
    have subL : ∀ q ∈ L', q ∈ ks := fun q hq => by
      by_cases h : p.2 ∈ L.map (·.2)
      · exact sub q (c1 h ▸ hq)
      · cases (c2 h).mem_iff.mp hq with
        | head => exact List.mem_of_getElem? ei
        | tail _ hq => exact sub q hq
    refine wpAny_pure ⟨plainId_quiet PyProof.Rows.F.plain_set_update_loop _, ih (i + 1) _ (by omega) lt (W.frame _ s1 _ _ st1 (Nat.le_add_right _ _) fun q hq o e => ?_) (fun q o e => ?_) ⟨L', es', ep', t', c.more ei c1 c2, subL, B2⟩ fun s2 L2 es2 ep2 t2 mv2 c3 B3 => ?_⟩
    · exact (sb.2 q fun z => hb (z ▸ hq)).trans e
    · exact (sb.2 q fun z => by rw [z, nb] at e; cases e).trans (up mv f q o e)
    · refine done s2 L2 es2 ep2 t2 (Moved.trans W.gtrans ((mv.mono ws).then_heap (Nat.le_add_right _ _) fun q o hq e => ?_) mv2) c3 B3
      exact (sb.2 q fun z => hq (z ▸ List.mem_cons_self)).trans e
end
section
variable {prog : Program} {w : World} {A : Around} {E : Value → Shared → Prop} {s : Shared}
theorem new_bag {h : Heap} {a : Addr} {led : Bool} (ho : h.get? a = some (setObj led)) (hl : w.params.followText "set-order" = true ∨ led = true) : Bag prog w h a [] #[] 0 (.fresh 0 0 led) where
  ob := ⟨_, ho, ⟨rfl, rfl, rfl⟩, rfl⟩
  rows := rfl
  tab := ⟨List.Pairwise.nil, rfl, rfl, .inl rfl, (fun _ z => nomatch z), (fun i u j e => by simp at e)⟩
  led := hl
  room := by
    show 0 * 5 < 7 * 3
    decide
  few := (by decide : 0 < 64)
  tk := fun _ z => nomatch z
  nd := List.nodup_nil
def ledOf (w : World) : Bool := !w.params.followText "set-order"
theorem ledOf_or (w : World) : w.params.followText "set-order" = true ∨ ledOf w = true := by
  unfold ledOf
  cases w.params.followText "set-order"
  · exact .inr rfl
  · exact .inl rfl
theorem init_tk {l : Addr} {items : Array Value} {ks : List (Addr × List Str)} (hh : A.handled = none) (hl : s.heap.IsTuple l items) (hi : items.toList = ks.map fun p => Value.ref p.1) (tk : ∀ p ∈ ks, Tk prog w s.heap p.2 p.1) (few : ks.length < 64) (hu : A.units + 4 < cLine) :
    codeAny (model prog w) A (.call (.builtin "set.__init__") ⟨[.ref s.heap.objs.size, .ref l], []⟩)
      (wants (fun r s2 => r = .none ∧ ∃ h' n L es ep t, s2 = { s with heap := h', toks := n } ∧ Cov ks ks.length L ∧ Bag prog w h' s.heap.objs.size L es ep t ∧ (∀ q o, s.heap.get? q = some o → h'.get? q = some o)) E)
      { s with heap := s.heap.push (setObj (ledOf w)) } := by
  have hT : Shared.TypeIs { s with heap := s.heap.push (setObj (ledOf w)) } (.ref s.heap.objs.size) "set" := ⟨_, Heap.get?_push_size _ rfl, rfl⟩
  refine codeAny_call_builtin PySem.F.called_set.init.plain PySem.F.entry_set_init (check_set_init_1 hT ?_)
  obtain ⟨⟨kc, kd, kx, kz⟩, hol, hcl, nl, hdl⟩ := hl
  simp only at hcl hdl
  subst hcl hdl
  have hol' : (s.heap.push (setObj (ledOf w))).get? l = some _ := Heap.get?_push_of_some _ hol
  have hl1 : (s.heap.push (setObj (ledOf w))).IsTuple l items := ⟨_, hol', rfl, nl, rfl⟩
  have hsls := PySem.F.sub_tuple_set
  have hslf := PySem.F.sub_tuple_frozenset
  have hne : (Value.type "tuple" == Value.type "dict") = false := by decide
  unfold Builtin.«set.__init__» noKeywords Builtin.Frozenset.updateFrom
  generalize ePI : pyIter = PI
  wp_walk
  subst ePI
  refine wpAny_pyIter_tuple hl1 (wpAny_bind (wpAny_runValue ?_))
  have below : l < s.heap.objs.size := Heap.lt_size hol
  have nh : A.in1.in1.handled = none := by simp [hh]
  have z1 : (s.heap.push (setObj (ledOf w))).objs.size = s.heap.objs.size + 1 := Heap.size_push ..
  have apart : l ≠ (s.heap.push (setObj (ledOf w))).objs.size := by
    rw [z1]
    exact Nat.ne_of_lt (Nat.lt_succ_of_lt below)
  have out : s.heap.objs.size ∉ [(s.heap.push (setObj (ledOf w))).objs.size, l] := by
    rw [List.mem_cons, List.mem_singleton, z1]
    exact fun q => q.elim (Nat.ne_of_lt (Nat.lt_succ_self _)) (Nat.ne_of_gt below)
  have zx : ks.length = items.size := by rw [← Array.length_toList, hi, List.length_map]
  have void : ∀ q, s.heap.objs.size ≤ q → s.heap.get? q = none := fun q hq => by
    cases e : s.heap.get? q with
    | none => rfl
    | some o => exact absurd (Heap.lt_size e) (Nat.not_lt_of_le hq)
  refine loopTk ((Walks.tuple nh _ l apart items).toS) s.heap.objs.size out ks zx (zx ▸ few) (fun i v e => ?val) (by simp; omega) s.heap tk (void _ (Nat.le_refl _)) (fun q hq => void q (by rw [List.mem_singleton.mp hq, z1]; omega)) (items.size - 0) 0 _ (by omega) (Nat.zero_le _) ?at_ (fun q o e => Heap.get?_push_of_some _ (Heap.get?_push_of_some _ e)) ?first ?last
  case val =>
    have e : items.toList[i]? = some v := Array.getElem?_toList ▸ e
    rw [hi, List.getElem?_map] at e
    obtain ⟨p, e1, e2⟩ := Option.map_eq_some_iff.mp e
    exact ⟨p, e1, e2.symm⟩
  case at_ => exact ⟨⟨_, Heap.get?_push_size _ rfl, rfl, rfl⟩, hl1.push _⟩
  case first => exact ⟨[], #[], 0, _, Cov.nil ks, fun _ z => (nomatch z), new_bag (Heap.get?_push_of_some _ (Heap.get?_push_size _ rfl)) (ledOf_or w)⟩
  case last =>
    rintro ⟨h', g', d', tk', os'⟩ L es ep t mv c B
    obtain rfl : g' = s.gens := mv.gens
    obtain rfl : d' = s.drawn := mv.drawn
    obtain rfl : os' = s.os := mv.os
    refine wpAny_pure (wpAny_pure ⟨rfl, h', tk', L, es, ep, t, rfl, zx ▸ c, B, fun q o e => ?_⟩)
    have lq := Heap.lt_size e
    refine mv.heap q o (by rw [List.mem_cons, List.mem_singleton, z1]; exact fun z => z.elim (Nat.ne_of_lt lq) (Nat.ne_of_lt (Nat.lt_succ_of_lt lq))) (Heap.get?_push_of_some _ (Heap.get?_push_of_some _ e))
set_option maxHeartbeats 8000000 in
theorem call_set_tk {l : Addr} {items : Array Value} {ks : List (Addr × List Str)} {Q : Value → Shared → Prop} (hh : A.handled = none) (hl : s.heap.IsTuple l items) (hi : items.toList = ks.map fun p => Value.ref p.1) (tk : ∀ p ∈ ks, Tk prog w s.heap p.2 p.1) (few : ks.length < 64) (hu : A.units + 8 < cLine)
    (h : ∀ (h' : Heap) (n : Nat) L es ep t, Cov ks ks.length L → Bag prog w h' s.heap.objs.size L es ep t → (∀ q o, s.heap.get? q = some o → h'.get? q = some o) → Q (.ref s.heap.objs.size) { s with heap := h', toks := n }) :
    wpAny (model prog w) A (call (.type "set") [.ref l]) Q E s := by
  obtain ⟨_, _, hmro⟩ := PySem.F.called_set.mro
  have hmade := PySem.F.called_set.made
  have hsub := PySem.F.called_set.sub
  have h1 := PySem.F.called_set.notType
  have h2 := PySem.F.called_set.canCreate
  have hct := PySem.F.typeCall_set_1 (.ref l)
  refine wpAny_call (codeAny_of_tree (wpAny_pure (a := _) ⟨Code.quiet_builtin _ (by decide +kernel), codeAny_builtin PySem.F.entry_type_call ?_⟩))
  rw [Around.under_plain (weight_type_call_type "set" [.ref l] []) rfl]
  repeat (any_goals (first | assumption | wp_step))
  refine codeAny_mono (code_set_led1 (.ref l) (E := E) (Q₁ := fun v s1 => v = .ref s.heap.objs.size ∧ s1 = { s with heap := s.heap.push (setObj (ledOf w)) }) ⟨rfl, rfl⟩) fun r s1 hr => ?_
  match r, hr with
  | .ok (.ret v), hr =>
    obtain ⟨rfl, rfl⟩ := hr
    have hS : (s.heap.push (setObj (ledOf w))).get? s.heap.objs.size = some (setObj (ledOf w)) := Heap.get?_push_size _ rfl
    have hT : Shared.TypeIs { s with heap := s.heap.push (setObj (ledOf w)) } (.ref s.heap.objs.size) "set" := ⟨_, hS, rfl⟩
    have hli := PySem.F.called_set.init.lookup
    have hbi := PySem.F.called_set.init.bind (.ref s.heap.objs.size)
    repeat (any_goals (first | assumption | wp_step))
    refine codeAny_mono (init_tk (E := E) (by simp [hh]) hl hi tk few (by simp; omega)) fun r s2 hr => ?_
    match r, hr with
    | .ok (.ret v), hr =>
      obtain ⟨rfl, h', n, L, es, ep, t, rfl, c, B, keep⟩ := hr
      repeat (any_goals (first | assumption | wp_step))
      exact h h' n L es ep t c B keep
    | .error e, hr => exact hr
    | .ok .next, hr => exact hr.elim
    | .ok .brk, hr => exact hr.elim
    | .ok .cont, hr => exact hr.elim
  | .error e, hr => exact hr
  | .ok .next, hr => exact hr.elim
  | .ok .brk, hr => exact hr.elim
  | .ok .cont, hr => exact hr.elim
end
theorem items_tk {P : Program} {w : World} : ∀ {k : List Str} {us : List Value}, Vals (k.map V.str) us → ItemsAre (PySem.strKind P w) k us
  | [], _, .nil => .nil
  | _ :: _, _, .cons r t => by
    obtain ⟨z, rfl⟩ := r
    exact .cons (strKind_is _ _ _ _) (items_tk t)
theorem refs_tk : ∀ {ks : List (Addr × List Str)} {us : List Value}, Vals (ks.map fun p => V.ref p.1) us → us = ks.map fun p => Value.ref p.1
  | [], _, .nil => rfl
  | _ :: _, _, .cons r t => by
    cases r
    exact congrArg _ (refs_tk t)
/-- len(set(t)), t a tuple of tuples of texts -/
def tLenSetTk (K : PySem.W.Frag) (ta : TE) : TE := fun σ H Q => ta σ H fun x H1 => ∃ (l : Addr) (ks : List (Addr × List Str)), x = .ref l ∧ SqT K H1 l (ks.map fun p => V.ref p.1) ∧ (∀ p ∈ ks, SqT K H1 p.1 (p.2.map V.str)) ∧ ks.length < 64 ∧ ∀ c : Nat, c ≤ ks.length → (c = ks.length ↔ (ks.map (·.2)).Nodup) → Q (.int c) H1
theorem pe_lenSetTk {X : Cx} {a : Expr} {ta : TE} {p p2 q pos : Pos} (hg : Gl X "len") (hm : X.mg "len" = none) (hg2 : Gl X "set") (hm2 : X.mg "set" = none) (hu : X.A.units + 64 < cLine) (ha : PE X a ta) (hc : X.calm = true := by rfl)
    (na : starEach [a] X.env = (false, eval a X.env) :: starEach [] X.env := by rfl) : PE X (.Call (.Name "len" p) [.Call (.Name "set" p2) [a] [] q] [] pos) (tLenSetTk X.K ta) := by
  refine ⟨fun pins s σ H Q I h => Call_ (ld_blt I hg hm boot_len (PyProof.Rows.callWith_builtin1 (PyProof.Rows.args_cons (Call_ (ld_blt I hg2 hm2 boot_set (PyProof.Rows.callWith_type1 (PyProof.Rows.args_cons (thn (ha.run pins s σ H _ I h) fun v s1 ⟨x, H1, I1, r1, q1⟩ => PyProof.Rows.args_nil ?_) na) na rfl))) rfl) rfl rfl))⟩
  obtain ⟨l, ks, rfl, ht, hk, few, q1⟩ := q1
  obtain rfl : v = Value.ref l := r1
  obtain ⟨its, rv, pl, _⟩ := I1.tuple ht
  refine call_set_tk (ks := ks) (I1.ok.hd hc) pl (by simpa using refs_tk rv) (fun p hp => ?_) few (by omega) fun h' n L es ep t c B keep => PyProof.Rows.args_nil ?_
  · obtain ⟨us, r, ⟨o, e1, e2, m, e3⟩, _⟩ := I1.tuple (hk p hp)
    exact ⟨o, us.toArray, m, e1, e2, e3, by simpa using items_tk r⟩
  · have I2 : Inv X pins σ H1 { s1 with heap := h', toks := n } := I1.kept keep
    obtain ⟨o, e1, e2, e3⟩ := B.ob
    have z := c.full
    rw [List.take_length] at z
    exact call_len_set e1 e2 e3 (fits_of B.rows (by rw [B.tab.sz, List.length_map]) B.tab.dm (by have := B.room; omega)) (by rw [size_rows B.rows]; have := B.few; omega) ⟨.int L.length, H1, I2.tok _, ⟨_, by rw [size_rows B.rows]⟩, q1 L.length c.le z⟩
end El

set_option Elab.async false
set_option linter.all false
set_option maxRecDepth 100000
set_option maxHeartbeats 4000000
/-! Own words: `in`, `not in` and `[..]` of own classes. -/
namespace El
open PySem PySem.Spec PyProof.Rows L2
/-- an own class's `__contains__` -/
structure InC (K : PySem.W.Frag) (C f : Addr) : Prop where
  at_ : PySem.W.findIn K (.ref C) "__contains__" = some (some (.ref f))
  fn : PySem.W.isFn K (.ref f) = true
/-- an own class's `__getitem__` -/
structure ItC (K : PySem.W.Frag) (C f : Addr) : Prop where
  at_ : PySem.W.findIn K (.ref C) "__getitem__" = some (some (.ref f))
  fn : PySem.W.isFn K (.ref f) = true
  ns : PySem.W.noSeq K C = true
section
variable {X : Cx} {CX : CXT} {k : Nat} {C f : Addr} {fd : FuncData} {ps : List Str} {sp : Sp} {E : XK}
/-- x in a, a of the class at C; n: not in -/
def rInO (n : Bool) (C : Addr) (sp : Sp) (E : XK) : R2 := fun x y H Q => ∃ a dx fs, y = .ref a ∧ H a = some (.ins C dx fs) ∧ sp [.ref a, x] H (fun v H' => ∃ b : Bool, v = .bl b ∧ Q (.bl (n ^^ b)) H') E
theorem op_inO (c : InC X.K C f) (F : FnOk X.prog X.w X.K X.mg X.base CX k f fd ps sp) (hr : Room k X.A) (hb : Binds X.K fd ps []) (hx : Passes CX X E) : OpR X (compareOp .In) (rInO false C sp E) := by
  intro pins s σ H x y v u Q I rx ry h
  obtain ⟨a, dx, fs, rfl, ea, q⟩ := h
  obtain rfl : u = Value.ref a := ry
  obtain ⟨m, fr⟩ := I.fr
  obtain ⟨mA, O, _⟩ := ins_get I.hok ea
  obtain ⟨od, J, _⟩ := O.look
  refine PySem.W.in_K fr I.ok.mod.kin J c.at_ c.fn ?_
  refine wpAny_mono (run_fn (us := [.ref a, v]) (vs := [.ref a, x]) (ds := []) (dvs := []) F hr hb .nil hx I (.cons rfl (.cons rx .nil)) q) (fun u' s' h' => ?_) fun _ _ z => z
  obtain ⟨w, H', I', rw', b, rfl, q'⟩ := h'
  cases (show u' = Value.bool b from rw')
  refine wpAny_pure ⟨.bl b, H', I', rfl, ?_⟩
  cases b <;> exact q'
theorem op_notInO (c : InC X.K C f) (F : FnOk X.prog X.w X.K X.mg X.base CX k f fd ps sp) (hr : Room k X.A) (hb : Binds X.K fd ps []) (hx : Passes CX X E) : OpR X (compareOp .NotIn) (rInO true C sp E) := by
  intro pins s σ H x y v u Q I rx ry h
  obtain ⟨a, dx, fs, rfl, ea, q⟩ := h
  obtain rfl : u = Value.ref a := ry
  obtain ⟨m, fr⟩ := I.fr
  obtain ⟨mA, O, _⟩ := ins_get I.hok ea
  obtain ⟨od, J, _⟩ := O.look
  refine PySem.W.notIn_K fr I.ok.mod.kin J c.at_ c.fn ?_
  refine wpAny_mono (run_fn (us := [.ref a, v]) (vs := [.ref a, x]) (ds := []) (dvs := []) F hr hb .nil hx I (.cons rfl (.cons rx .nil)) q) (fun u' s' h' => ?_) fun _ _ z => z
  obtain ⟨w, H', I', rw', b, rfl, q'⟩ := h'
  cases (show u' = Value.bool b from rw')
  refine wpAny_pure ⟨.bl (!b), H', I', rfl, ?_⟩
  cases b <;> exact q'
/-- a[y], a of the class at C -/
def rItO (C : Addr) (sp : Sp) (E : XK) : R2 := fun x y H Q => ∃ a dx fs, x = .ref a ∧ H a = some (.ins C dx fs) ∧ sp [.ref a, y] H Q E
theorem op_itO (c : ItC X.K C f) (F : FnOk X.prog X.w X.K X.mg X.base CX k f fd ps sp) (hr : Room k X.A) (hb : Binds X.K fd ps []) (hx : Passes CX X E) : OpR X getItem (rItO C sp E) := by
  intro pins s σ H x y v u Q I rx ry h
  obtain ⟨a, dx, fs, rfl, ea, q⟩ := h
  obtain rfl : v = Value.ref a := rx
  obtain ⟨m, fr⟩ := I.fr
  obtain ⟨mA, O, _⟩ := ins_get I.hok ea
  obtain ⟨od, J, _⟩ := O.look
  refine PySem.W.getItem_K fr I.ok.mod.kin J c.ns c.at_ c.fn ?_
  exact run_fn (us := [.ref a, u]) (vs := [.ref a, y]) (ds := []) (dvs := []) F hr hb .nil hx I (.cons rfl (.cons ry .nil)) q
end
end El

set_option Elab.async false
set_option linter.all false
set_option maxRecDepth 100000
set_option maxHeartbeats 4000000
/-! Own words: `in`, `not in` for pairs of texts in tuples and lists of such, `==` of such pairs; keyword-only parameters with defaults. -/
namespace El
open PySem PySem.Spec PyProof.Rows L2
theorem dec_iff {p : Prop} {i : Decidable p} : @decide p i = true ↔ p := decide_eq_true_iff
section
variable {X : Cx}
/-- the tuple (a, b) of texts -/
def PairAt (K : PySem.W.Frag) (H : Hp) (v : V) (p : Str × Str) : Prop := ∃ r, v = .ref r ∧ SqT K H r [.str p.1, .str p.2]
/-- a row of such -/
inductive PairsIn (K : PySem.W.Frag) (H : Hp) : List V → List (Str × Str) → Prop
  | nil : PairsIn K H [] []
  | cons {v : V} {p : Str × Str} {vs : List V} {ps : List (Str × Str)} : PairAt K H v p → PairsIn K H vs ps → PairsIn K H (v :: vs) (p :: ps)
theorem PairAt.dp {K : PySem.W.Frag} {H : Hp} {v : V} {p : Str × Str} (h : PairAt K H v p) : Dp K H v (PySem.W.Datum.toD p) := by
  obtain ⟨r, rfl, h⟩ := h
  exact .tup h (.cons (.str _) (.cons (.str _) .nil))
theorem PairsIn.dp {K : PySem.W.Frag} {H : Hp} {vs : List V} {ps : List (Str × Str)} (h : PairsIn K H vs ps) : DpAll K H vs (ps.map PySem.W.Datum.toD) := by
  induction h with
  | nil => exact .nil
  | cons a _ ih => exact .cons a.dp ih
def rInP (K : PySem.W.Frag) (neg : Bool) : R2 := fun x y H Q => ∃ (p : Str × Str) (l : Addr) (vs : List V) (ps : List (Str × Str)), PairAt K H x p ∧ y = .ref l ∧ (SqT K H l vs ∨ SqL K H l vs) ∧ PairsIn K H vs ps ∧ Q (.bl (if neg then decide (p ∉ ps) else decide (p ∈ ps))) H
theorem op_inP (K : PySem.W.Frag) (neg : Bool) (hu : X.A.units + 64 < cLine) (hK : X.K = K := by rfl) : OpR X (compareOp (if neg then .NotIn else .In)) (rInP K neg) := by
  subst hK
  intro pins s σ H x y v u Q I rx ry h
  obtain ⟨p, l, vs, ps, hp, rfl, hl, hv, q⟩ := h
  obtain ⟨bs, rd⟩ := Dp.reads I _ x v hp.dp rx
  have dep : PySem.W.Datum.depth (Str × Str) ≤ 2 := by decide
  have any_ : ((ps.map PySem.W.Datum.toD).any fun d => PyData.eqv d (PySem.W.Datum.toD p)) = true ↔ p ∈ ps := by
    have z := PySem.W.any_datum ps p
    exact (Bool.eq_iff_iff.mp z).trans dec_iff
  have room : X.A.units + 1 + min (PyData.depthAll (ps.map PySem.W.Datum.toD)) (PySem.W.Datum.toD p).depth < cLine := by
    have := PySem.W.Datum.depth_le p
    have := Nat.min_le_right (PyData.depthAll (ps.map PySem.W.Datum.toD)) (PySem.W.Datum.toD p).depth
    omega
  have yes : ∀ b : Bool, (b = true ↔ p ∈ ps) → b = decide (p ∈ ps) := fun b hb => by rw [Bool.eq_iff_iff, hb, decide_eq_true_iff]
  have no : ∀ b : Bool, (b = true ↔ p ∈ ps) → (!b) = decide (p ∉ ps) := fun b hb => by rw [yes b hb, decide_not]
  rcases hl with hl | hl
  · obtain ⟨as, rc⟩ := Dp.reads I _ (.ref l) u (.tup hl hv.dp) ry
    cases neg
    · exact PySem.SeqAt.in_tuple_data rc rd (PySem.W.plainAll_map ps) (PySem.W.Datum.plain p) room (by rw [yes _ any_]; exact ⟨.bl _, H, I, rfl, q⟩)
    · exact PySem.SeqAt.notIn_tuple_data rc rd (PySem.W.plainAll_map ps) (PySem.W.Datum.plain p) room (by rw [no _ any_]; exact ⟨.bl _, H, I, rfl, q⟩)
  · obtain ⟨as, rc⟩ := Dp.reads I _ (.ref l) u (.lst hl hv.dp) ry
    cases neg
    · exact PySem.SeqAt.in_list_data rc rd (PySem.W.plainAll_map ps) (PySem.W.Datum.plain p) room (by rw [yes _ any_]; exact ⟨.bl _, H, I, rfl, q⟩)
    · exact PySem.SeqAt.notIn_list_data rc rd (PySem.W.plainAll_map ps) (PySem.W.Datum.plain p) room (by rw [no _ any_]; exact ⟨.bl _, H, I, rfl, q⟩)
theorem inP (K : PySem.W.Frag) (hu : X.A.units + 64 < cLine) (hK : X.K = K := by rfl) : OpR X (compareOp .In) (rInP K false) := op_inP K false hu hK
theorem notInP (K : PySem.W.Frag) (hu : X.A.units + 64 < cLine) (hK : X.K = K := by rfl) : OpR X (compareOp .NotIn) (rInP K true) := op_inP K true hu hK
def rEqP (K : PySem.W.Frag) : R2 := fun x y H Q => ∃ p q : Str × Str, PairAt K H x p ∧ PairAt K H y q ∧ Q (.bl (decide (p = q))) H
theorem eqP (K : PySem.W.Frag) (hu : X.A.units + 64 < cLine) (hK : X.K = K := by rfl) : OpR X (compareOp .Eq) (rEqP K) := by
  subst hK
  intro pins s σ H x y v u Q I rx ry h
  obtain ⟨p, q, hp, hq, k⟩ := h
  obtain ⟨as, ra⟩ := Dp.reads I _ x v hp.dp rx
  obtain ⟨bs, rb⟩ := Dp.reads I _ y u hq.dp ry
  have dep : PySem.W.Datum.depth (Str × Str) ≤ 2 := by decide
  have := PySem.W.Datum.depth_le p
  have := Nat.min_le_left (PySem.W.Datum.toD p).depth (PySem.W.Datum.toD q).depth
  exact PySem.SeqAt.eq_plain ra rb (PySem.W.Datum.plain p) (PySem.W.Datum.plain q) (by omega) (by rw [PySem.W.Datum.eqv]; exact ⟨.bl _, H, I, rfl, k⟩)
/-- len(set(t)), t a tuple of pairs of texts -/
def tLenSetP (K : PySem.W.Frag) (ta : TE) : TE := fun σ H Q => ta σ H fun x H1 => ∃ (l : Addr) (vs : List V) (ps : List (Str × Str)), x = .ref l ∧ SqT K H1 l vs ∧ PairsIn K H1 vs ps ∧ ps.length < 64 ∧ ∀ c : Nat, c ≤ ps.length → (c = ps.length ↔ ps.Nodup) → Q (.int c) H1
theorem pairs_ks {K : PySem.W.Frag} {H : Hp} {vs : List V} {ps : List (Str × Str)} (h : PairsIn K H vs ps) : ∃ ks : List (Addr × List Str), vs = ks.map (fun p => V.ref p.1) ∧ (∀ p ∈ ks, SqT K H p.1 (p.2.map V.str)) ∧ ks.map (·.2) = ps.map fun p => [p.1, p.2] := by
  induction h with
  | nil => exact ⟨[], rfl, fun _ z => (nomatch z), rfl⟩
  | @cons v p vs ps a _ ih =>
    obtain ⟨r, rfl, h⟩ := a
    obtain ⟨ks, e1, e2, e3⟩ := ih
    refine ⟨(r, [p.1, p.2]) :: ks, by rw [e1]; rfl, fun q hq => ?_, by rw [List.map_cons, List.map_cons, e3]⟩
    cases hq with
    | head => exact h
    | tail _ hq => exact e2 q hq
theorem nodup_map_inj {α β : Type} {f : α → β} (hf : ∀ a b, f a = f b → a = b) {l : List α} : (l.map f).Nodup ↔ l.Nodup :=
  ⟨fun h => List.Pairwise.of_map f (fun _ _ n e => n (congrArg f e)) h, fun h => List.pairwise_map.mpr (List.Pairwise.imp (fun n e => n (hf _ _ e)) h)⟩
theorem pe_lenSetP {a : Expr} {ta : TE} {p p2 q pos : Pos} (K : PySem.W.Frag) (hg : Gl X "len") (hm : X.mg "len" = none) (hg2 : Gl X "set") (hm2 : X.mg "set" = none) (hu : X.A.units + 64 < cLine) (ha : PE X a ta) (hc : X.calm = true := by rfl)
    (na : starEach [a] X.env = (false, eval a X.env) :: starEach [] X.env := by rfl) (hK : X.K = K := by rfl) : PE X (.Call (.Name "len" p) [.Call (.Name "set" p2) [a] [] q] [] pos) (tLenSetP K ta) := by
  subst hK
  refine ⟨fun pins s σ H Q I h => Call_ (ld_blt I hg hm boot_len (PyProof.Rows.callWith_builtin1 (PyProof.Rows.args_cons (Call_ (ld_blt I hg2 hm2 boot_set (PyProof.Rows.callWith_type1 (PyProof.Rows.args_cons (thn (ha.run pins s σ H _ I h) fun v s1 ⟨x, H1, I1, r1, q1⟩ => PyProof.Rows.args_nil ?_) na) na rfl))) rfl) rfl rfl))⟩
  obtain ⟨l, vs, ps, rfl, ht, hv, few, q1⟩ := q1
  obtain ⟨ks, rfl, hk, e3⟩ := pairs_ks hv
  have el : ks.length = ps.length := by
    have := congrArg List.length e3
    rwa [List.length_map, List.length_map] at this
  obtain rfl : v = Value.ref l := r1
  obtain ⟨its, rv, pl, _⟩ := I1.tuple ht
  refine call_set_tk (ks := ks) (I1.ok.hd hc) pl (by simpa using refs_tk rv) (fun p hp => ?_) (by omega) (by omega) fun h' n L es ep t c B keep => PyProof.Rows.args_nil ?_
  · obtain ⟨us, r, ⟨o, e1, e2, m, e3⟩, _⟩ := I1.tuple (hk p hp)
    exact ⟨o, us.toArray, m, e1, e2, e3, by simpa using items_tk r⟩
  · have I2 : Inv X pins σ H1 { s1 with heap := h', toks := n } := I1.kept keep
    obtain ⟨o, e1, e2, e4⟩ := B.ob
    have z := c.full
    rw [List.take_length] at z
    have c1 := c.le
    refine call_len_set e1 e2 e4 (fits_of B.rows (by rw [B.tab.sz, List.length_map]) B.tab.dm (by have := B.room; omega)) (by rw [size_rows B.rows]; have := B.few; omega) ⟨.int L.length, H1, I2.tok _, ⟨_, by rw [size_rows B.rows]⟩, q1 L.length (by omega) ?_⟩
    rw [← el, z, e3]
    exact nodup_map_inj fun a b e => by
      injection e with e1 e2
      injection e2 with e2 _
      exact Prod.ext e1 e2
end

/-! ### two keyword-only parameters with defaults -/
structure Kw2 (K : PySem.W.Frag) (fd : FuncData) (ps : List Str) (n : Nat) (k1 k2 : Str) (d1 d2 : V) : Prop where
  no : ∃ g, KBn K fd ps n [] g (fun vs _ => vs ++ [d1, d2])
  one : ∃ g, KBn K fd ps n [k1] g (fun vs zs => vs ++ (zs ++ [d2]))
  two : ∃ g, KBn K fd ps n [k2] g (fun vs zs => vs ++ (d1 :: zs))
  all : ∃ g, KBn K fd ps n [k1, k2] g (fun vs zs => vs ++ zs)
theorem Vals.app {vs ws : List V} {us xs : List Value} (a : Vals vs us) (b : Vals ws xs) : Vals (vs ++ ws) (us ++ xs) := by
  induction a with
  | nil => exact b
  | cons r _ ih => exact .cons r ih
theorem kw2_mk {K : PySem.W.Frag} {x qual : Str} {params : Arguments} {body : List Stmt} {scope : Scope} {f : Addr} {fd : FuncData} {ps : List Str} {k1 k2 : Str} {d1 d2 : V} (n : Nat) (F : FunD K x qual params body scope [] [(k1, d1), (k2, d2)] f fd)
    (h0 : ∀ (D : Addr) (doc pm : Value) (an : Option Addr) (cdv ct : Value) (us : List Value) (m1 m2 : Value), us.length = n → KwChain D [(k1, m1), (k2, m2)] (bindArgs (PySem.W.fnOf x qual params body scope .none (.ref D) doc pm an cdv ct) ⟨us, []⟩) (ps.zip (us ++ [m1, m2])))
    (h1 : ∀ (D : Addr) (doc pm : Value) (an : Option Addr) (cdv ct : Value) (us : List Value) (m2 w1 : Value), us.length = n → KwChain D [(k2, m2)] (bindArgs (PySem.W.fnOf x qual params body scope .none (.ref D) doc pm an cdv ct) ⟨us, [(k1, w1)]⟩) (ps.zip (us ++ [w1, m2])))
    (h2 : ∀ (D : Addr) (doc pm : Value) (an : Option Addr) (cdv ct : Value) (us : List Value) (m1 w2 : Value), us.length = n → KwChain D [(k1, m1)] (bindArgs (PySem.W.fnOf x qual params body scope .none (.ref D) doc pm an cdv ct) ⟨us, [(k2, w2)]⟩) (ps.zip (us ++ [m1, w2])))
    (h3 : ∀ (D : Addr) (doc pm : Value) (an : Option Addr) (cdv ct : Value) (us : List Value) (w1 w2 : Value), us.length = n → KwChain D [] (bindArgs (PySem.W.fnOf x qual params body scope .none (.ref D) doc pm an cdv ct) ⟨us, [(k1, w1), (k2, w2)]⟩) (ps.zip (us ++ [w1, w2]))) :
    Kw2 K fd ps n k1 k2 d1 d2 where
  no := by
    obtain ⟨mv, h⟩ := F.kbinds0 n [] [(k1, d1), (k2, d2)] (fun us ms _ => us ++ ms) (by simp) (fun q h => h) (fun a b _ => Vals.app a b) fun D doc pm an cdv ct us mv ws l1 l2 l3 => match mv, ws, l2, l3 with | [m1, m2], [], _, _ => h0 D doc pm an cdv ct us m1 m2 l1
    exact ⟨_, h⟩
  one := by
    obtain ⟨mv, h⟩ := F.kbinds0 n [k1] [(k2, d2)] (fun us ms ws => us ++ (ws ++ ms)) (by simp) (fun q h => List.mem_cons_of_mem _ h) (fun a b c => Vals.app a (Vals.app c b)) fun D doc pm an cdv ct us mv ws l1 l2 l3 => match mv, ws, l2, l3 with | [m2], [w1], _, _ => h1 D doc pm an cdv ct us m2 w1 l1
    exact ⟨_, h⟩
  two := by
    obtain ⟨mv, h⟩ := F.kbinds0 n [k2] [(k1, d1)] (fun us ms ws => us ++ (ms ++ ws)) (by simp) (fun q h => by rw [List.mem_singleton.mp h]; exact List.mem_cons_self) (fun a b c => Vals.app a (Vals.app b c)) fun D doc pm an cdv ct us mv ws l1 l2 l3 => match mv, ws, l2, l3 with | [m1], [w2], _, _ => h2 D doc pm an cdv ct us m1 w2 l1
    exact ⟨_, h⟩
  all := by
    obtain ⟨mv, h⟩ := F.kbinds0 n [k1, k2] [] (fun us ms ws => us ++ ws) (by simp) (fun q h => nomatch h) (fun a b c => Vals.app a c) fun D doc pm an cdv ct us mv ws l1 l2 l3 => match mv, ws, l2, l3 with | [], [w1, w2], _, _ => h3 D doc pm an cdv ct us w1 w2 l1
    exact ⟨_, h⟩
/-- a def of the text with two keyword-only parameters that have defaults -/
theorem fundk_mk {K : PySem.W.Frag} {x qual k1 k2 : Str} {st : Stmt} {f D e1 e2 : Addr} {oc : Value} {od an : Option Addr} {osl : Array (Option Value)} {doc pm cdv ct : Value}
    (l : K.lookup f = some ⟨oc, od, .func (PySem.W.fnOf x qual (defArgs st) (defBody st) (defScope st) .none (.ref D) doc pm an cdv ct), osl⟩) (c : PySem.W.codeIn K cdv qual = true) (k : PySem.W.keepIn K (.ref f) = true)
    (h1 : PySem.W.nsIn K D k1 = some (some (.ref e1))) (h2 : PySem.W.nsIn K D k2 = some (some (.ref e2))) : FunD K x qual (defArgs st) (defBody st) (defScope st) [] [(k1, V.ref e1), (k2, V.ref e2)] f (PySem.W.fnOf x qual (defArgs st) (defBody st) (defScope st) .none (.ref D) doc pm an cdv ct) := by
  refine ⟨⟨oc, od, .none, .ref D, doc, pm, an, cdv, ct, osl, rfl, l, c, .inl ⟨rfl, rfl⟩, .inr ⟨D, rfl, fun q hq => ?_⟩⟩, k⟩
  cases hq with
  | head => exact ⟨_, h1, rfl⟩
  | tail _ hq =>
    cases hq with
    | head => exact ⟨_, h2, rfl⟩
    | tail _ hq => exact nomatch hq
/-- a class whose __init__ has two keyword-only parameters, their defaults empty tuples -/
structure CalK (P : Program) (w : World) (K : PySem.W.Frag) (mg : Str → Option Value) (base : Heap) (CX : CXT) (k : Nat) (x : Str) (C f : Addr) (fd : FuncData) (ps : List Str) (n : Nat) (k1 k2 : Str) (e1 e2 : Addr) (sp : Sp) : Prop where
  G : FnOk P w K mg base CX k f fd ps sp
  b : Kw2 K fd ps n k1 k2 (.ref e1) (.ref e2)
  mkc : Mk K C f
  m : mg x = some (.ref C)
  t1 : ∀ H, SqT K H e1 []
  t2 : ∀ H, SqT K H e2 []
section
variable {X : Cx} {CX : CXT} {k : Nat} {C f e1 e2 : Addr} {fd : FuncData} {ps : List Str} {sp : Sp} {E : XK} {x k1 k2 : Str} {p pos : Pos} {e : Expr} {es : List Expr} {t tk : TA} {kws : List Keyword} {n : Nat}
theorem pe_mkNo (c : CalK X.prog X.w X.K X.mg X.base CX k x C f fd ps (n + 1) k1 k2 e1 e2 sp) (hr : Room (k + 1) X.A) (hg : Gl X x) (hx : Passes CX X E) (ha : PA X (e :: es) t) (hkw : PK X [] tk) (hdb : (x == ("__debug__" : Str)) = false := by decide)
    (he : starEach (e :: es) X.env = (false, eval e X.env) :: starEach es X.env := by rfl) (hpl : ((backTo pos (starEach (e :: es) X.env)).any (·.1) || (backToKw pos (keywordEach [] X.env)).any (·.1.isNone)) = false := by rfl) (hall : (backToKw pos (keywordEach [] X.env)).all (·.1.isSome) = true := by rfl) (hks : (backToKw pos (keywordEach [] X.env)).filterMap (·.1) = [] := by rfl) :
    PE X (.Call (.Name x p) (e :: es) [] pos) (tMakeK C n 0 sp (fun vs _ => vs ++ [.ref e1, .ref e2]) E t tk) := by
  obtain ⟨g, hb⟩ := c.b.no
  exact pe_makeK c.mkc c.G hr hg c.m hb hx ha hkw hall hks hdb he hpl
theorem pe_mkOne (c : CalK X.prog X.w X.K X.mg X.base CX k x C f fd ps (n + 1) k1 k2 e1 e2 sp) (hr : Room (k + 1) X.A) (hg : Gl X x) (hx : Passes CX X E) (ha : PA X (e :: es) t) (hkw : PK X kws tk) (hdb : (x == ("__debug__" : Str)) = false := by decide)
    (he : starEach (e :: es) X.env = (false, eval e X.env) :: starEach es X.env := by rfl) (hpl : ((backTo pos (starEach (e :: es) X.env)).any (·.1) || (backToKw pos (keywordEach kws X.env)).any (·.1.isNone)) = false := by rfl) (hall : (backToKw pos (keywordEach kws X.env)).all (·.1.isSome) = true := by rfl) (hks : (backToKw pos (keywordEach kws X.env)).filterMap (·.1) = [k1] := by rfl) :
    PE X (.Call (.Name x p) (e :: es) kws pos) (tMakeK C n 1 sp (fun vs zs => vs ++ (zs ++ [.ref e2])) E t tk) := by
  obtain ⟨g, hb⟩ := c.b.one
  exact pe_makeK c.mkc c.G hr hg c.m hb hx ha hkw hall hks hdb he hpl
theorem pe_mkTwo (c : CalK X.prog X.w X.K X.mg X.base CX k x C f fd ps (n + 1) k1 k2 e1 e2 sp) (hr : Room (k + 1) X.A) (hg : Gl X x) (hx : Passes CX X E) (ha : PA X (e :: es) t) (hkw : PK X kws tk) (hdb : (x == ("__debug__" : Str)) = false := by decide)
    (he : starEach (e :: es) X.env = (false, eval e X.env) :: starEach es X.env := by rfl) (hpl : ((backTo pos (starEach (e :: es) X.env)).any (·.1) || (backToKw pos (keywordEach kws X.env)).any (·.1.isNone)) = false := by rfl) (hall : (backToKw pos (keywordEach kws X.env)).all (·.1.isSome) = true := by rfl) (hks : (backToKw pos (keywordEach kws X.env)).filterMap (·.1) = [k2] := by rfl) :
    PE X (.Call (.Name x p) (e :: es) kws pos) (tMakeK C n 1 sp (fun vs zs => vs ++ (.ref e1 :: zs)) E t tk) := by
  obtain ⟨g, hb⟩ := c.b.two
  exact pe_makeK c.mkc c.G hr hg c.m hb hx ha hkw hall hks hdb he hpl
theorem pe_mkAll (c : CalK X.prog X.w X.K X.mg X.base CX k x C f fd ps (n + 1) k1 k2 e1 e2 sp) (hr : Room (k + 1) X.A) (hg : Gl X x) (hx : Passes CX X E) (ha : PA X (e :: es) t) (hkw : PK X kws tk) (hdb : (x == ("__debug__" : Str)) = false := by decide)
    (he : starEach (e :: es) X.env = (false, eval e X.env) :: starEach es X.env := by rfl) (hpl : ((backTo pos (starEach (e :: es) X.env)).any (·.1) || (backToKw pos (keywordEach kws X.env)).any (·.1.isNone)) = false := by rfl) (hall : (backToKw pos (keywordEach kws X.env)).all (·.1.isSome) = true := by rfl) (hks : (backToKw pos (keywordEach kws X.env)).filterMap (·.1) = [k1, k2] := by rfl) :
    PE X (.Call (.Name x p) (e :: es) kws pos) (tMakeK C n 2 sp (fun vs zs => vs ++ zs) E t tk) := by
  obtain ⟨g, hb⟩ := c.b.all
  exact pe_makeK c.mkc c.G hr hg c.m hb hx ha hkw hall hks hdb he hpl
end
end El

set_option Elab.async false
set_option linter.all false
set_option maxRecDepth 100000
set_option maxHeartbeats 4000000
/-! Own words: iterating an own class whose `__iter__` returns iter(..) of a tuple. -/
namespace El
open PySem PySem.Spec PyProof.Rows L2
/-- a promise that may speak of how many objects there were at the call -/
def FnS (P : Program) (w : World) (K : PySem.W.Frag) (mg : Str → Option Value) (base : Heap) (CX : CXT) (k : Nat) (f : Addr) (sp : Nat → Sp) : Prop :=
  ∀ (A : Around) (outer : List Env) (s : Shared) (H : Hp) (us : List Value) (vs : List V) (Q : VK) (E : XK), Room k A → Env0 P w K mg base A outer s H → Vals vs us → sp s.heap.objs.size vs H Q E →
    codeAny (model P w) A (.call (.ref f) ⟨us, []⟩) (CR CX outer P w H s Q E) s
section
variable {P : Program} {w : World} {K : PySem.W.Frag} {mg : Str → Option Value} {base : Heap} {j k : Nat} {f : Addr} {sp : Nat → Sp}
theorem FnS.mono {CX : CXT} (F : FnS P w K mg base CX j f sp) (h : j ≤ k) : FnS P w K mg base CX k f sp := fun A outer s H us vs Q E hr => F A outer s H us vs Q E (hr.mono h)
theorem fun_okS {x qual : Str} {st : Stmt} {fd : FuncData} {N ps : List Str} (F : Fun K x qual st f fd) (S : FnScope N ps (defScope st)) (hb : Binds K fd ps []) (len : ∀ n vs H Q E, sp n vs H Q E → vs.length = ps.length)
    (hbody : ∀ (cdv : Value) (A : Around) (outer : List Env) (s : Shared) (H : Hp) (vs : List V) (Q : VK) (E : XK), Room k (A.deeper (envOfC qual (defScope st) s.heap.objs.size f cdv)) → sp s.heap.objs.size vs H Q E →
      ∃ t, PSs (cxOf CX0 P w K mg base N qual (defScope st) f cdv A outer s H E).nox (defBody st) t ∧ t { nx := fun _ H' => Q .non H', rt := Q } (start N vs) H) : FnS P w K mg base CX0 (k + 1) f sp := by
  obtain ⟨oc, od, kV, doc, pm, an, cdv, ct, osl, rfl, lk, hcd⟩ := F.ex
  intro A outer s H us vs Q E hr e0 r hsp
  have hl := len _ _ _ _ _ hsp
  have KX : K.In s.heap := e0.mod.kin.keeps fun b o e => (e0.bs b o e).1
  have bt := hb s us KX (by rw [List.append_nil, ← r.length]; exact hl)
  rw [List.append_nil] at bt
  have nl : s.heap.NoLimit := e0.mod.nolimit.keeps fun b o e => (e0.bs b o e).1
  refine codeAny_call_function hr.depth (KX _ _ lk) rfl S.co S.gen rfl (PySem.W.codeRec_of KX hcd) (bt _ _ _ _ ?_)
  refine wpAny_newFunctionEnv_cells S.kind (fun y hy => (S.par y.1 (List.of_mem_zip hy).1).imp id fun q => ⟨q, PySem.W.cellsFrom_some _ _ _ (.inl q)⟩) fun env he s1 x => ⟨nl.keeps x.toInCall.keep, codeAny_func ?_⟩
  subst he
  obtain ⟨t, ht, hq⟩ := hbody cdv A outer s H vs Q E (hr.deeper _) hsp
  have I := inv_start (CX := CX0) (w := w) (E := E) S hr.hd e0 hl r x
  refine wpAny_mono (ht.nox.run [] s1 (start N vs) H _ I hq) (fun fl s' hs => ?_) fun _ _ hs => hs
  match fl, hs with
  | .ret u, ⟨v, σ', H', J, rv, q⟩ => exact ⟨v, H', J.os, J.bare, J.base, J.hok, rv, q⟩
  | .next, ⟨σ', H', J, q⟩ => exact ⟨V.non, H', J.os, J.bare, J.base, J.hok, rfl, q⟩
  | .brk, ⟨_, _, _, q⟩ => exact False.elim q
  | .cont, ⟨_, _, _, q⟩ => exact False.elim q
end

/-! ### iter(..) of a tuple -/
def tiObj (t : Addr) : Obj := { cls := .type "tuple_iterator", data := .fields #[.ref t, .int 0 0] }
/-- at it the iterator of the tuple at t, at its beginning -/
def TitO (t it : Addr) : HO := .ext fun h => h.get? it = some (tiObj t)
theorem titO_ok {P : Program} {w : World} {H : Hp} {h : Heap} {t it : Addr} (e : h.get? it = some (tiObj t)) : ObjOk P w H h it (TitO t it) := ⟨e, ⟨_, e⟩, fun _ _ q k => k _ q⟩
theorem titO_get {X : Cx} {pins : List (Addr × Obj)} {σ : L2.St} {H : Hp} {s : Shared} {t it : Addr} (I : Inv X pins σ H s) (e : H it = some (TitO t it)) : s.heap.get? it = some (tiObj t) := (I.hok it _ e).1
def rIterT (K : PySem.W.Frag) (n : Nat) : List V → Hp → VK → Prop := fun xs H Q => ∃ (t : Addr) (zs : List V), xs = [.ref t] ∧ SqT K H t zs ∧ ∀ it, H it = none → n ≤ it → Q (.ref it) (upd H it (TitO t it))
theorem run_iterT {prog : Program} {w : World} {A : Around} {E : Value → Shared → Prop} {s : Shared} {t : Addr} {items : Array Value} {Q : Value → Shared → Prop} (ht : s.heap.IsTuple t items) (h : Q (.ref s.heap.objs.size) { s with heap := s.heap.push (tiObj t) }) : wpAny (model prog w) A (call (.builtin "iter") [.ref t]) Q E s := by
  refine Calls.call_function_entry (by decide +kernel) (by decide +kernel) PySem.W.kdk_entry_iter (PySem.W.kdk_args_iter _) ?_
  unfold Builtin.«iter»
  refine wpAny_bind (m := someArgs "iter" 1 2 _) (wpAny_of_eq (a := [Value.ref t]) (by first | rfl | kernel_rfl!) ?_)
  exact wpAny_bind (wpAny_pyIter_tuple ht (wpAny_pure ⟨_, rfl, h⟩))
theorem call_iterT {X : Cx} : CallR X (.builtin "iter") (rIterT X.K X.s_0.heap.objs.size) := by
  intro pins s σ H xs us Q I r h
  obtain ⟨t, zs, rfl, hq, q⟩ := h
  obtain rfl := Vals.ref1 r
  obtain ⟨its, rv, p, hz⟩ := I.tuple hq
  refine run_iterT (show s.heap.IsTuple t its.toArray from p) ?_
  exact ⟨.ref s.heap.objs.size, _, I.laid (t' := s.toks) (fun b u e => Heap.get?_push_of_some _ e) (Nat.le_refl _) (titO_ok (Heap.get?_push_size _ rfl)), rfl, q _ (I.hok.fresh (Nat.le_refl _)) I.sz⟩
theorem iterTK {X : Cx} (K : PySem.W.Frag) (n : Nat) (h : X.K = K := by rfl) (hn : X.s_0.heap.objs.size = n := by rfl) : CallR X (.builtin "iter") (rIterT K n) := h ▸ hn ▸ call_iterT

/-! ### for x in a, a of the class at C -/
structure OitC (K : PySem.W.Frag) (C f : Addr) : Prop where
  at_ : PySem.W.findIn K (.ref C) "__iter__" = some (some (.ref f))
  fn : PySem.W.isFn K (.ref f) = true
/-- behind the call the iterator is forgotten -/
def iOwnT (K : PySem.W.Frag) (C : Addr) (sp : Nat → Sp) (n : Nat) (E : XK) (te : TE) : TI := fun σ H R => te σ H fun x H1 => ∃ a dx fs, x = .ref a ∧ H1 a = some (.ins C dx fs) ∧ ∀ m, n ≤ m → sp m [.ref a] H1 (fun v H2 => ∃ t it, v = .ref it ∧ H2 it = some (TitO t it) ∧ n ≤ it ∧ R (Itt K t) (ItX.dropH H2 it)) E
theorem pi_ownT {X : Cx} {CX : CXT} {k : Nat} {C f : Addr} {sp : Nat → Sp} {E : XK} {tg e : Expr} {te : TE} (c : OitC X.K C f) (F : FnS X.prog X.w X.K X.mg X.base CX k f sp) (hr : Room k X.A) (hx : Passes CX X E) (he : PE X e te) : PI X tg e (iOwnT X.K C sp X.s_0.heap.objs.size E te) := by
  refine ⟨fun pins s σ H R I h => ?_⟩
  refine thn (he.run pins s σ H _ I h) fun v s1 ⟨x, H1, I1, r1, a, dx, fs, ex, ea, q⟩ => ?_
  subst ex
  obtain rfl : v = Value.ref a := r1
  obtain ⟨m, fr⟩ := I1.fr
  obtain ⟨mA, O, _⟩ := ins_get I1.hok ea
  obtain ⟨od, J, _⟩ := O.look
  refine PySem.W.owit_iter fr I1.ok.mod.kin J c.at_ c.fn ?_
  refine wpAny_call (codeAny_mono (F X.A X.stack s1 H1 [.ref a] [.ref a] _ E hr I1.env0 (.cons rfl .nil) (q _ I1.sz)) fun r s' hq => ?_)
  match r, hq with
  | .error e, hq => exact hx pins σ H1 s1 e s' I1 hq
  | .ok (.ret u), hq =>
    obtain ⟨w', H2, I2, rw', t, it, rfl, hi, hn, hR⟩ := I1.after hq
    obtain rfl : u = Value.ref it := rw'
    have eo := titO_get I2 hi
    have hi' := hi
    unfold TitO at hi'
    have LT : PySem.W.Looks (model X.prog X.w) s'.heap (typeOf (.ref it)) (.type "tuple_iterator") := (PySem.W.Looks.ld (part := none) eo).andThen .now
    have LN : PySem.W.Looks (model X.prog X.w) s'.heap (specialOf (.ref it) (Str.ofString "__next__")) (some (.builtin "tuple_iterator.__next__")) := LT.andThen (PySem.W.Looks.of_pure slot_tupleiter_next.lookup)
    refine LN.here ?_
    refine ⟨it, [it], _, _, ItX.dropH H2 it, rfl, ItX.inv_drop I2 hi', turn_tuple t it, ⟨_, eo, rfl, rfl⟩, fun b hb => ?_, hR⟩
    have e : b = it := by simpa using hb
    rw [e]
    exact ItX.inv_fp I2 hi hn
  | .ok .next, hq => exact False.elim hq
  | .ok .brk, hq => exact False.elim hq
  | .ok .cont, hq => exact False.elim hq
end El

set_option Elab.async false
set_option linter.all false
set_option maxRecDepth 100000
set_option maxHeartbeats 4000000
/-! Own words: len(set(xs)) of a list or a tuple of any number of texts. -/
namespace El
open PySem PySem.Spec PyProof.Rows L2
section
variable {prog : Program} {w : World} {A : Around} {E : Value → Shared → Prop} {s : Shared}
/-- what set.__init__ does to a new set with a list of texts -/
theorem init_txL {l : Addr} {items : Array Value} {xs : List Str} {led : Bool} (hh : A.handled = none) (hl : s.heap.IsList l items) (hi : PyProof.Rows.StrsAre items.toList xs) (hx : xs.length + 1 < scanBound) :
    codeAny (model prog w) A (.call (.builtin "set.__init__") ⟨[.ref s.heap.objs.size, .ref l], []⟩)
      (wants (fun r s2 => r = .none ∧ ∃ h' tk c, s2 = { s with heap := h', toks := tk } ∧ Cnt xs xs.length c ∧ h'.SetOf (PySem.strKind prog w) s.heap.objs.size (Has xs xs.length) c ∧ (∀ q o, s.heap.get? q = some o → h'.get? q = some o)) E)
      { s with heap := s.heap.push (setObj led) } := by
  have hT : Shared.TypeIs { s with heap := s.heap.push (setObj led) } (.ref s.heap.objs.size) "set" := ⟨_, Heap.get?_push_size _ rfl, rfl⟩
  refine codeAny_call_builtin PySem.F.called_set.init.plain PySem.F.entry_set_init (check_set_init_1 hT ?_)
  obtain ⟨⟨kc, kd, kx, ks⟩, hol, hcl, nl, hdl⟩ := hl
  simp only at hcl hdl
  subst hcl hdl
  have hol' : (s.heap.push (setObj led)).get? l = some _ := Heap.get?_push_of_some _ hol
  have hl1 : (s.heap.push (setObj led)).IsList l items := ⟨_, hol', rfl, nl, rfl⟩
  have hsls := PySem.F.sub_list_set
  have hslf := PySem.F.sub_list_frozenset
  have hne : (Value.type "list" == Value.type "dict") = false := by decide
  unfold Builtin.«set.__init__» noKeywords Builtin.Frozenset.updateFrom
  generalize ePI : pyIter = PI
  wp_walk
  subst ePI
  refine wpAny_pyIter_list hl1 (wpAny_bind (wpAny_runValue ?_))
  have below : l < s.heap.objs.size := Heap.lt_size hol
  have nh : A.in1.in1.handled = none := by simp [hh]
  have z1 : (s.heap.push (setObj led)).objs.size = s.heap.objs.size + 1 := Heap.size_push ..
  have apart : l ≠ (s.heap.push (setObj led)).objs.size := by
    rw [z1]
    exact Nat.ne_of_lt (Nat.lt_succ_of_lt below)
  have out : s.heap.objs.size ∉ [(s.heap.push (setObj led)).objs.size, l] := by
    rw [List.mem_cons, List.mem_singleton, z1]
    exact fun q => q.elim (Nat.ne_of_lt (Nat.lt_succ_self _)) (Nat.ne_of_gt below)
  have zx : xs.length = items.size := by rw [← StrsAre.len_eq hi, Array.length_toList]
  refine loopTx ((Walks.list nh _ l apart items).toS) s.heap.objs.size out xs zx (zx ▸ hx) (fun i v e => SS.strs_at hi i v (Array.getElem?_toList ▸ e)) (items.size - 0) 0 _ (by omega) (Nat.zero_le _) ?at_ ?first ?last
  case at_ => exact ⟨⟨_, Heap.get?_push_size _ rfl, rfl, rfl⟩, hl1.push _⟩
  case first =>
    refine ⟨0, Cnt.nil xs, ?_⟩
    refine SetOf_congr ((PyProof.Rows.setObjOf_fresh (knd := PySem.strKind prog w) led).setOf (Heap.get?_push_of_some _ (Heap.get?_push_size _ rfl)) (by unfold scanBound; omega)) (fun y => ?_) rfl
    rfl
  case last =>
    rintro ⟨h', g', d', tk', os'⟩ c mv hc ho
    obtain rfl : g' = s.gens := mv.gens
    obtain rfl : d' = s.drawn := mv.drawn
    obtain rfl : os' = s.os := mv.os
    refine wpAny_pure (wpAny_pure ⟨rfl, h', tk', c, rfl, zx ▸ hc, zx ▸ ho, fun q o e => ?_⟩)
    have lq := Heap.lt_size e
    refine mv.heap q o (by rw [List.mem_cons, List.mem_singleton, z1]; exact fun z => z.elim (Nat.ne_of_lt lq) (Nat.ne_of_lt (Nat.lt_succ_of_lt lq))) (Heap.get?_push_of_some _ (Heap.get?_push_of_some _ e))
set_option maxHeartbeats 8000000 in
theorem call_set_txL {l : Addr} {items : Array Value} {xs : List Str} {Q : Value → Shared → Prop} (hh : A.handled = none) (hl : s.heap.IsList l items) (hi : PyProof.Rows.StrsAre items.toList xs) (hx : xs.length + 1 < scanBound)
    (h : ∀ (h' : Heap) (tk c : Nat), Cnt xs xs.length c → h'.SetOf (PySem.strKind prog w) s.heap.objs.size (Has xs xs.length) c → (∀ q o, s.heap.get? q = some o → h'.get? q = some o) → Q (.ref s.heap.objs.size) { s with heap := h', toks := tk }) :
    wpAny (model prog w) A (call (.type "set") [.ref l]) Q E s := by
  obtain ⟨_, _, hmro⟩ := PySem.F.called_set.mro
  have hmade := PySem.F.called_set.made
  have hsub := PySem.F.called_set.sub
  have h1 := PySem.F.called_set.notType
  have h2 := PySem.F.called_set.canCreate
  have hct := PySem.F.typeCall_set_1 (.ref l)
  refine wpAny_call (codeAny_of_tree (wpAny_pure (a := _) ⟨Code.quiet_builtin _ (by decide +kernel), codeAny_builtin PySem.F.entry_type_call ?_⟩))
  rw [Around.under_plain (weight_type_call_type "set" [.ref l] []) rfl]
  repeat (any_goals (first | assumption | wp_step))
  refine codeAny_mono (code_set_new_1 (.ref l) (E := E) (Q₁ := fun v s1 => ∃ led, v = .ref s.heap.objs.size ∧ s1 = { s with heap := s.heap.push (setObj led) }) fun led => ⟨led, rfl, rfl⟩) fun r s1 hr => ?_
  match r, hr with
  | .ok (.ret v), hr =>
    obtain ⟨led, rfl, rfl⟩ := hr
    have hS : (s.heap.push (setObj led)).get? s.heap.objs.size = some (setObj led) := Heap.get?_push_size _ rfl
    have hT : Shared.TypeIs { s with heap := s.heap.push (setObj led) } (.ref s.heap.objs.size) "set" := ⟨_, hS, rfl⟩
    have hli := PySem.F.called_set.init.lookup
    have hbi := PySem.F.called_set.init.bind (.ref s.heap.objs.size)
    repeat (any_goals (first | assumption | wp_step))
    refine codeAny_mono (init_txL (E := E) (by simp [hh]) hl hi hx) fun r s2 hr => ?_
    match r, hr with
    | .ok (.ret v), hr =>
      obtain ⟨rfl, h', tk, c, rfl, hc, ho, keep⟩ := hr
      repeat (any_goals (first | assumption | wp_step))
      exact h h' tk c hc ho keep
    | .error e, hr => exact hr
    | .ok .next, hr => exact hr.elim
    | .ok .brk, hr => exact hr.elim
    | .ok .cont, hr => exact hr.elim
  | .error e, hr => exact hr
  | .ok .next, hr => exact hr.elim
  | .ok .brk, hr => exact hr.elim
  | .ok .cont, hr => exact hr.elim
end
/-- len(set(xs)), xs a tuple or a list of texts -/
def tLenSetS (K : PySem.W.Frag) (ta : TE) : TE := fun σ H Q => ta σ H fun x H1 => ∃ (l : Addr) (xs : List Str), x = .ref l ∧ (SqT K H1 l (xs.map V.str) ∨ SqL K H1 l (xs.map V.str)) ∧ xs.length < 64 ∧ ∀ c : Nat, c ≤ xs.length → (c = xs.length ↔ xs.Nodup) → Q (.int c) H1
theorem pe_lenSetS {X : Cx} {a : Expr} {ta : TE} {p p2 q pos : Pos} (K : PySem.W.Frag) (hg : Gl X "len") (hm : X.mg "len" = none) (hg2 : Gl X "set") (hm2 : X.mg "set" = none) (ha : PE X a ta) (hc : X.calm = true := by rfl)
    (na : starEach [a] X.env = (false, eval a X.env) :: starEach [] X.env := by rfl) (hK : X.K = K := by rfl) : PE X (.Call (.Name "len" p) [.Call (.Name "set" p2) [a] [] q] [] pos) (tLenSetS K ta) := by
  subst hK
  refine ⟨fun pins s σ H Q I h => Call_ (ld_blt I hg hm boot_len (PyProof.Rows.callWith_builtin1 (PyProof.Rows.args_cons (Call_ (ld_blt I hg2 hm2 boot_set (PyProof.Rows.callWith_type1 (PyProof.Rows.args_cons (thn (ha.run pins s σ H _ I h) fun v s1 ⟨x, H1, I1, r1, q1⟩ => PyProof.Rows.args_nil ?_) na) na rfl))) rfl) rfl rfl))⟩
  obtain ⟨l, xs, rfl, ht, few, q1⟩ := q1
  obtain rfl : v = Value.ref l := r1
  have fin : ∀ (h' : Heap) (tk c : Nat), Cnt xs xs.length c → h'.SetOf (PySem.strKind X.prog X.w) s1.heap.objs.size (Has xs xs.length) c → (∀ q o, s1.heap.get? q = some o → h'.get? q = some o) → wpAny (model X.prog X.w) X.A (call (.builtin "len") [.ref s1.heap.objs.size]) (EP X pins σ Q) X.xe { s1 with heap := h', toks := tk } := fun h' tk c hcn hS keep => by
    obtain ⟨o, es, ep, tb, ho, hex, hd, _, _, _, hf, hn⟩ := hS
    have I2 : Inv X pins σ H1 { s1 with heap := h', toks := tk } := I1.kept keep
    obtain ⟨c1, c2⟩ := hcn
    rw [List.take_length] at c2
    exact call_len_set ho hex hd hf (by rw [hn]; omega) ⟨.int c, H1, I2.tok _, ⟨_, by rw [hn]⟩, q1 c c1 c2⟩
  rcases ht with ht | ht
  · obtain ⟨its, rv, pl, _⟩ := I1.tuple ht
    exact call_set_tx (I1.ok.hd hc) pl (by simpa using strsAre_of rv) (by unfold scanBound; omega) fun h' tk c hcn hS keep => PyProof.Rows.args_nil (fin h' tk c hcn hS keep)
  · obtain ⟨its, rv, pl, _⟩ := I1.list ht
    exact call_set_txL (I1.ok.hd hc) pl.isList (by simpa using strsAre_of rv) (by unfold scanBound; omega) fun h' tk c hcn hS keep => PyProof.Rows.args_nil (fin h' tk c hcn hS keep)
end El

set_option Elab.async false
set_option linter.all false
set_option maxRecDepth 100000
set_option maxHeartbeats 4000000
/-! Own words: enumerate(t) of a tuple. -/
namespace El
open PySem PySem.Spec PyProof.Rows L2
open AutoSeq1 (wpAny_loadPart')
/-- the tuple at a, each item in a new pair with its place -/
def IteT (K : PySem.W.Frag) (a : Addr) : It where
  go := fun i H => ∃ (xs : List V) (x : V), SqT K H a xs ∧ xs[i]? = some x
  yld := fun i H v H' => ∃ T x, v = .ref T ∧ H T = none ∧ H' = upd H T (.tup [.int (i : Nat), x]) ∧ ∀ xs, SqT K H a xs → xs[i]? = some x
  stop := fun i H => ∃ xs : List V, SqT K H a xs ∧ xs.length ≤ i
theorem walk_enumT {K : PySem.W.Frag} {a : Addr} {xs : List V} : Walk (IteT K a) xs.length (fun H => SqT K H a xs) (YPair (fun i => some (.int (i : Nat))) (fun i => xs[i]?)) where
  goes := fun i _ hi q => ⟨xs, xs[i], q, by simp [hi]⟩
  stops := fun _ q => ⟨xs, q, Nat.le_refl _⟩
  yields := fun i H v H' _ q y => by
    obtain ⟨T, x, h1, h2, h3, h4⟩ := y
    exact ⟨T, .int (i : Nat), x, h1, h2, h3, rfl, h4 xs q⟩
/-- the object of an enumerate over it, at its beginning -/
def enObj (it : Addr) : Obj := { cls := .type "enumerate", data := .fields #[.none, .bool false, .ref it, rawInt 0, .none, .none] }
theorem enum_newT (t : Addr) (items : Array Value) (n : Nat) (dct : Option Addr) (sl : Array (Option Value)) :
    Meets (Builtin.«enumerate.__new__» ⟨[.type "enumerate", .ref t], []⟩) (fun _ R s => s.heap.get? t = some ⟨.type "tuple", dct, .seq items n, sl⟩ ∧ R (.ok (.ret (.ref (s.heap.push (tiObj t)).objs.size))) { s with heap := (s.heap.push (tiObj t)).push (enObj s.heap.objs.size) }) :=
  .of_wp fun prog w A R s h => by
    obtain ⟨hp, g, d, tk, os⟩ := s
    obtain ⟨ht, h⟩ := h
    have hsub := sub_enumerate
    have hT : Heap.IsTuple (Shared.heap ⟨hp, g, d, tk, os⟩) t items := ⟨_, ht, rfl, n, rfl⟩
    wp_walk using wpAny_loadPart' ht
    refine wpAny_stack_any fun st => wpAny_pure ?_
    split
    · rename_i c _ _ _ _ _
      cases (c == Value.type "enumerate") <;> (wp_walk using wpAny_loadPart' ht, wpAny_pyIter_tuple hT; exact ⟨_, rfl, h⟩)
    · wp_walk using wpAny_loadPart' ht, wpAny_pyIter_tuple hT
      exact ⟨_, rfl, h⟩
section
variable {prog : Program} {w : World} {A : Around} {E : Value → Shared → Prop} {s : Shared}
theorem call_enumT {t : Addr} {items : Array Value} {Q : Value → Shared → Prop} (hT : s.heap.IsTuple t items)
    (h : ∀ h', IsEnum h' (s.heap.objs.size + 1) s.heap.objs.size 0 .none → h'.IsTupleIter s.heap.objs.size t 0 → (∀ b o, s.heap.get? b = some o → h'.get? b = some o) → Q (.ref (s.heap.objs.size + 1)) { s with heap := h' }) :
    wpAny (model prog w) A (call (.type "enumerate") [.ref t]) Q E s := by
  obtain ⟨⟨c, dct, dt, sl⟩, ht, hc, n, hd⟩ := hT
  simp only at hc hd
  subst hc hd
  refine callType_new F.called_enumerate (by decide) (F.typeCall_enumerate_1 _) (F.newCall_enumerate_1 _) (fun obj => F.args_object_init_2 obj _) F.entry_enumerate_new (enum_newT t items n dct sl) ⟨ht, ?_⟩
  have hz : (s.heap.push (tiObj t)).objs.size = s.heap.objs.size + 1 := Heap.size_push ..
  have he : IsEnum ((s.heap.push (tiObj t)).push (enObj s.heap.objs.size)) (s.heap.objs.size + 1) s.heap.objs.size 0 .none := by
    have q := Heap.get?_push_size (s.heap.push (tiObj t)) (o := enObj s.heap.objs.size) rfl
    rw [hz] at q
    exact q
  rw [hz]
  exact ⟨⟨_, he, rfl⟩, h _ he ⟨_, Heap.get?_push_of_some _ (Heap.get?_push_size _ rfl), rfl, rfl⟩ fun b o x => Heap.get?_push_of_some _ (Heap.get?_push_of_some _ x)⟩
end
theorem turn_enumT {P : Program} {w : World} {K : PySem.W.Frag} {elts : List Expr} {kk : Nat} {tpos : Pos} (t e it : Addr) (items : Array Value) :
    Turn P w K (.Tuple elts kk tpos) (IteT K t) [e, it] e (fun i h => (∃ old, IsEnum h e it ((i : Nat) : Int) old) ∧ h.IsTupleIter it t i ∧ e ≠ it ∧ t ≠ it ∧ t ≠ e) where
  mem := List.mem_cons_self
  obj := fun i h st b hb => by
    obtain ⟨⟨old, he⟩, ⟨o, ho, hc, hd⟩, _⟩ := st
    rw [List.mem_cons, List.mem_singleton] at hb
    rcases hb with z | z
    · exact z ▸ ⟨_, he, fun v q => nomatch q⟩
    · exact z ▸ ⟨o, ho, fun v q => by rw [hd] at q; cases q⟩
  keep := fun i h h' st k => by
    obtain ⟨⟨old, he⟩, hi, hne⟩ := st
    exact ⟨⟨old, k e List.mem_cons_self _ he⟩, hi.at fun o q => k it (List.mem_cons_of_mem _ List.mem_cons_self) o q, hne⟩
  item := by
    intro X hP hw hK hc i pins s σ H E I hf st hg
    subst hP hw hK
    obtain ⟨⟨old, he⟩, hit, hne, n1, n2⟩ := st
    obtain ⟨xs, x, hq, hx⟩ := hg
    obtain ⟨its, rv, p, hz⟩ := I.tuple hq
    obtain ⟨u, hu, ru⟩ := rv.get hx
    have lt : i < its.toArray.size := by
      have := (List.getElem?_eq_some_iff.mp hu).1
      simpa using this
    have le : e < s.heap.objs.size := Heap.lt_size he
    have li : it < s.heap.objs.size := by obtain ⟨_, q, _⟩ := hit; exact Heap.lt_size q
    have nf : e ∉ [it, t] := by
      rw [List.mem_cons, List.mem_singleton]
      exact fun z => z.elim hne fun z => n2 z.symm
    refine wpAny_pyNext_enum_itemD (Draws.tuple (A := X.A.in1) (by simpa using I.ok.hd hc) it t n1 its.toArray) he ⟨hit, p⟩ lt hne nf fun v h' tk hv ho hit' hT hsz hk => ?_
    obtain rfl : v = u := by
      have e1 : its.toArray[i]? = some u := by simpa using hu
      exact Option.some.inj (hv.symm.trans e1)
    refine ⟨_, rfl, wpAny_letOwnedTupleGo_enum (s := { s with heap := h', toks := tk + 1 }) ho fun h'' he' sb => ?_⟩
    have hT2 := (sb.2 _ (Nat.ne_of_gt le)).trans hT
    have new : ObjOk X.prog X.w (upd H s.heap.objs.size (.tup [.int (i : Nat), x])) h'' s.heap.objs.size (.tup [.int (i : Nat), x]) :=
      ⟨by show 2 ≤ sizeLine; decide, [.int i tk, v], .cons ⟨_, rfl⟩ (.cons ru .nil), ⟨_, hT2, rfl, _, rfl⟩⟩
    have I1 : Inv X pins σ (upd H s.heap.objs.size (.tup [.int (i : Nat), x])) { s with heap := h'', toks := tk + 1 } := by
      refine I.turnedNew (ch := [e, it]) (fun b ob hb q => ?_) hf (Nat.le_refl _) new
      rw [List.mem_cons, List.mem_singleton, not_or] at hb
      exact (sb.2 b hb.1).trans (hk b ob hb.1 hb.2 q)
    refine ⟨.ref s.heap.objs.size, _, I1, rfl, ⟨_, x, rfl, I.hok.fresh (Nat.le_refl _), rfl, fun ys hy => by rw [I.tuple_inj hy hq]; exact hx⟩, ⟨⟨v, ?_⟩, hit'.1.at fun o q => (sb.2 it (Ne.symm hne)).trans q, hne, n1, n2⟩, fun b hb => ?_⟩
    · have e1 : ((i + 1 : Nat) : Int) = (i : Int) + 1 := by omega
      rw [e1]
      exact he'
    · have lb : b < s.heap.objs.size := by
        rw [List.mem_cons, List.mem_singleton] at hb
        rcases hb with z | z
        · rw [z]; exact le
        · rw [z]; exact li
      rw [upd_ne (Nat.ne_of_lt lb)]
      exact (hf b hb).1
  done := by
    intro X hP hw hK hc i pins s σ H E I hf st hg
    subst hP hw hK
    obtain ⟨⟨old, he⟩, hit, hne, n1, n2⟩ := st
    obtain ⟨xs, hq, hx⟩ := hg
    obtain ⟨its, rv, p, hz⟩ := I.tuple hq
    obtain ⟨f0, f1, f2, f3, f4, f5⟩ := hf it (List.mem_cons_of_mem _ List.mem_cons_self)
    have none_ : its.toArray[i]? = none := by
      have hl := rv.length
      simp
      omega
    have D : Draws X.prog X.w X.A.in1 it [it, t] 0 (fun _ _ => False) (fun _ h => h.IsTupleIter it t i ∧ h.IsTuple t its.toArray) :=
      { live := fun _ _ st => let ⟨o, ho, _⟩ := st.1; ⟨o, ho⟩
        frame := fun _ _ _ st hk => ⟨st.1.at fun o e => hk it List.mem_cons_self o e, st.2.at fun o e => hk t (List.mem_cons_of_mem _ List.mem_cons_self) o e⟩
        item := fun _ _ _ _ z => absurd z (Nat.not_lt_zero _)
        done := fun s Q E st hE => wpAny_nextOf_tuple_end (by simpa using I.ok.hd hc) st.1 st.2 none_ hE }
    exact wpAny_pyNext_enum_endD D he ⟨hit, p⟩ fun h' eb => ⟨rfl, I.turned (t' := s.toks) (fun b o hb q => eb b o hb q) f0 f1 f3 f4 f5⟩
  self := fun A i s Q E st h => by
    obtain ⟨⟨_, he⟩, _⟩ := st
    exact wpAny_pyIter_enum he h
def iEnumT (K : PySem.W.Frag) (ta : TA) : TI := fun σ H R => ta σ H fun vs H1 => ∃ a xs, vs = [.ref a] ∧ SqT K H1 a xs ∧ R (IteT K a) H1
theorem pi_enumT {X : Cx} {e : Expr} {ta : TA} {p pos tpos : Pos} {elts : List Expr} {kk : Nat} (hg : Gl X "enumerate") (hm : X.mg "enumerate" = none) (ha : PA X [e] ta) (hs : starEach [e] X.env = [(false, eval e X.env)] := by rfl) :
    PI X (.Tuple elts kk tpos) (.Call (.Name "enumerate" p) [e] [] pos) (iEnumT X.K ta) := by
  refine ⟨fun pins s σ H R I h => Call_ (ld_blt I hg hm boot_enumerate (PyProof.Rows.callWith_type1 (thn (ha.run pos pins s σ H _ I h) fun us s1 ⟨vs, H1, I1, r1, a, xs, ex, hq, q⟩ => ?_) hs rfl))⟩
  subst ex
  obtain rfl := Vals.ref1 r1
  obtain ⟨its, rv, pt, hz⟩ := I1.tuple hq
  have la : a < s1.heap.objs.size := by obtain ⟨o, ho, _⟩ := pt; exact Heap.lt_size ho
  refine call_enumT pt fun h' he hit hk => wpAny_pyIter_enum he ?_
  refine ⟨s1.heap.objs.size + 1, [s1.heap.objs.size + 1, s1.heap.objs.size], _, _, H1, rfl, I1.kept (t' := s1.toks) hk, turn_enumT a (s1.heap.objs.size + 1) s1.heap.objs.size its.toArray, ⟨⟨.none, he⟩, hit, Nat.succ_ne_self _, Nat.ne_of_lt la, Nat.ne_of_lt (Nat.lt_succ_of_lt la)⟩, fun b hb => ?_, q⟩
  have hle : s1.heap.objs.size ≤ b := by
    rw [List.mem_cons, List.mem_singleton] at hb
    rcases hb with z | z
    · exact z ▸ Nat.le_succ _
    · exact z ▸ Nat.le_refl _
  exact I1.fpOk hle (I1.hok.fresh hle)
end El

set_option Elab.async false
set_option linter.all false
set_option maxRecDepth 100000
set_option maxHeartbeats 4000000
/-! Own words: a list or a tuple walked; own classes made, read by [..] inside a try; own exceptions without arguments. -/
namespace El
open PySem PySem.Spec PyProof.Rows L2 NdefX
section
variable {X : Cx} {tg l : Expr} {tl : TE}
def iSeq (K : PySem.W.Frag) (tl : TE) : TI := fun σ H R => tl σ H fun x H1 => ∃ a xs, x = .ref a ∧ ((SqL K H1 a xs ∧ R (Itl K a) H1) ∨ (SqT K H1 a xs ∧ R (Itt K a) H1))
theorem pi_seq (hl : PE X l tl) : PI X tg l (iSeq X.K tl) := by
  refine ⟨fun pins s σ H R I h => thn (hl.run pins s σ H _ I h) fun v s1 ⟨x, H1, I1, r1, a, xs, ex, q⟩ => ?_⟩
  subst ex
  obtain rfl : v = Value.ref a := r1
  have new : ∀ b ∈ [s1.heap.objs.size], FpOk X pins H1 b := fun b hb => by
    rw [List.mem_singleton] at hb
    exact hb ▸ I1.fpOk (Nat.le_refl _) (I1.hok.fresh (Nat.le_refl _))
  rcases q with ⟨hq, q⟩ | ⟨hq, q⟩
  · obtain ⟨its, rv, p, _⟩ := I1.list hq
    exact wpAny_pyIter_list p.isList ⟨_, _, _, _, H1, rfl, I1.kept (t' := s1.toks) fun b o e => Heap.get?_push_of_some _ e, turn_list a _, ⟨_, Heap.get?_push_size _ rfl, rfl, rfl⟩, new, q⟩
  · obtain ⟨its, rv, p, _⟩ := I1.tuple hq
    exact wpAny_pyIter_tuple p ⟨_, _, _, _, H1, rfl, I1.kept (t' := s1.toks) fun b o e => Heap.get?_push_of_some _ e, turn_tuple a _, ⟨_, Heap.get?_push_size _ rfl, rfl, rfl⟩, new, q⟩
end
theorem pi_seqK {X : Cx} {tg l : Expr} {tl : TE} (K : PySem.W.Frag) (hl : PE X l tl) (h : X.K = K := by rfl) : PI X tg l (iSeq K tl) := h ▸ pi_seq hl
section
variable {X : Cx} {CX : CXT} {k : Nat} {C f : Addr} {fd : FuncData} {ps : List Str} {ds : List Value} {dvs : List V} {sp : Sp} {E : L2.St → XK} {x : Str} {p pos : Pos} {a b e : Expr} {es : List Expr} {ta tb : TE} {t : TA}
/-- C(e, ..), what its __init__ lets out being taken where it stands -/
def tMakeS (C : Addr) (sp : Sp) (E : L2.St → XK) (t : TA) : TE := fun σ H Q => t σ H fun vs H1 => ∀ x dx, H1 x = none → H1 dx = none → dx ≠ x → sp (.ref x :: vs) (upd (upd H1 dx (.own x)) x (.ins C dx [])) (fun v H2 => v = .non ∧ Q (.ref x) H2) (E σ)
theorem run_makeS {pins : List (Addr × Obj)} {σ : L2.St} {H : Hp} {s : Shared} {Q : VK} {us : List Value} {vs : List V} {E : XK} (M : Mk X.K C f) (F : FnOk X.prog X.w X.K X.mg X.base CX k f fd ps sp) (hr : Room (k + 1) X.A) (hb : Binds X.K fd ps [])
    (hx : PassesAt CX X σ E) (I : Inv X pins σ H s) (r : Vals vs us)
    (h : ∀ x dx, H x = none → H dx = none → dx ≠ x → sp (.ref x :: vs) (upd (upd H dx (.own x)) x (.ins C dx [])) (fun v H2 => v = .non ∧ Q (.ref x) H2) E) : wpAny (model X.prog X.w) X.A (call (.ref C) us) (EP X pins σ Q) X.xe s := by
  have fresh := fun n hn => I.hok.fresh (a := n) hn
  have q := h (s.heap.objs.size + 1) s.heap.objs.size (fresh _ (Nat.le_succ _)) (fresh _ (Nat.le_refl _)) (Nat.ne_of_lt (Nat.lt_succ_self _))
  have J := Inv.made (C := C) I
  have rr : Vals (V.ref (s.heap.objs.size + 1) :: vs) (Value.ref (s.heap.objs.size + 1) :: us) := .cons rfl r
  have hl : (Value.ref (s.heap.objs.size + 1) :: us ++ []).length = ps.length := by rw [List.append_nil, ← rr.length]; exact F.len _ _ _ _ q
  have bt := hb _ (Value.ref (s.heap.objs.size + 1) :: us) J.kIn hl
  rw [List.append_nil] at bt
  refine wpAny_call (make_map (f := f) I.kIn M.makes M.init (beq_iff_eq.mp M.fn) (codeAny_mono (F.run _ X.stack _ _ ⟨Value.ref (s.heap.objs.size + 1) :: us, []⟩ _ _ _ E (hr.make C us []) (J.env0.make C us []) bt rr q) fun r s' hs => ?_))
  match r, hs with
  | .error e, hs => exact hx pins _ _ e s' J hs
  | .ok (.ret u), hs =>
    obtain ⟨v, H', J', rv, ev, q'⟩ := J.after hs
    subst ev
    exact ⟨rv, V.ref (s.heap.objs.size + 1), H', J', rfl, q'⟩
  | .ok .next, hs => exact False.elim hs
  | .ok .brk, hs => exact False.elim hs
  | .ok .cont, hs => exact False.elim hs
theorem pe_makeS (M : Mk X.K C f) (F : FnOk X.prog X.w X.K X.mg X.base CX k f fd ps sp) (hr : Room (k + 1) X.A) (hg : Gl X x) (hm : X.mg x = some (.ref C)) (hb : Binds X.K fd ps []) (hx : ∀ σ, PassesAt CX X σ (E σ)) (ha : PA X (e :: es) t)
    (hdb : (x == ("__debug__" : Str)) = false := by decide) (he : starEach (e :: es) X.env = (false, eval e X.env) :: starEach es X.env := by rfl) (hpl : (backTo pos (starEach es X.env)).any (·.1) = false := by rfl) :
    PE X (.Call (.Name x p) (e :: es) [] pos) (tMakeS C sp E t) := by
  refine ⟨fun pins s σ H Q I h => wpAny_Call_Name_kw (ld_glob I hg hm ?_ hdb)⟩
  refine PySem.W.callWith_K (h₀ := X.base) I.ok.mod.kin M.kp (thn (ha.run pos pins s σ H _ I h) fun us s1 ⟨vs, H1, I1, r, q⟩ => ⟨I1.kIn, ?_⟩) he hpl
  exact run_makeS M F hr hb (hx σ) I1 r q
/-- an own class's `__getitem__`, as it is read by [..] -/
structure SubC (K : PySem.W.Frag) (C f : Addr) : Prop where
  at_ : PySem.W.findIn K (.ref C) "__getitem__" = some (some (.ref f))
  fn : PySem.W.isFn K (.ref f) = true
  fi : PySem.W.fnIn K f = true
/-- a[y], a of the class at C, what it lets out being taken where it stands -/
def tItS (C : Addr) (sp : Sp) (E : L2.St → XK) (ta tb : TE) : TE := fun σ H Q => ta σ H fun x H1 => tb σ H1 fun y H2 => ∃ a dx fs, x = .ref a ∧ H2 a = some (.ins C dx fs) ∧ sp [.ref a, y] H2 Q (E σ)
theorem pe_itS (c : SubC X.K C f) (F : FnOk X.prog X.w X.K X.mg X.base CX k f fd ps sp) (hr : Room (k + 1) X.A) (hb : Binds X.K fd ps []) (hx : ∀ σ, PassesAt CX X σ (E σ)) (ha : PE X a ta) (hb2 : PE X b tb)
    (hs : ∀ o i, subscripted b true o i = runValue (.builtin "lifetime.subscript" ⟨[o, i], []⟩) := by intro _ _; rfl) : PE X (.Subscript a b pos) (tItS C sp E ta tb) := by
  refine ⟨fun pins s σ H Q I h => Subscript_ (binT ha hb2 I (R := fun x y H2 => ∃ a dx fs, x = .ref a ∧ H2 a = some (.ins C dx fs) ∧ sp [.ref a, y] H2 Q (E σ)) h fun v u s2 x y H2 I2 rx ry q => ?_)⟩
  obtain ⟨a, dx, fs, rfl, ea, q⟩ := q
  obtain rfl : v = Value.ref a := rx
  obtain ⟨m, fr⟩ := I2.fr
  obtain ⟨mA, O, _⟩ := ins_get I2.hok ea
  obtain ⟨od, J, _⟩ := O.look
  refine PySem.W.sub_K fr I2.ok.mod.kin J c.at_ c.fi c.fn ?_ (hs _ _)
  have hl : ([Value.ref a, u] ++ []).length = ps.length := F.len _ _ _ _ q
  have bt := hb s2 [.ref a, u] I2.kIn hl
  rw [List.append_nil] at bt
  refine wpAny_call (codeAny_mono (F.run X.A.in1 X.stack s2 H2 ⟨[.ref a, u], []⟩ [.ref a, u] [.ref a, y] Q (E σ) hr.in1 I2.env0.in1 bt (.cons rfl (.cons ry .nil)) q) fun r s' hq => ?_)
  match r, hq with
  | .error e, hq => exact hx σ pins H2 s2 e s' I2 hq
  | .ok (.ret u), hq => exact I2.after hq
  | .ok .next, hq => exact False.elim hq
  | .ok .brk, hq => exact False.elim hq
  | .ok .cont, hq => exact False.elim hq
end
section
variable {X : Cx} {CX : CXT} {k : Nat} {C f : Addr} {fd : FuncData} {ps : List Str} {sp : Sp} {E : XK} {pos : Pos} {a b : Expr} {ta tb : TE}
theorem pe_itO (c : SubC X.K C f) (F : FnOk X.prog X.w X.K X.mg X.base CX k f fd ps sp) (hr : Room (k + 1) X.A) (hb : Binds X.K fd ps []) (hx : Passes CX X E) (ha : PE X a ta) (hb2 : PE X b tb)
    (hs : ∀ o i, subscripted b true o i = runValue (.builtin "lifetime.subscript" ⟨[o, i], []⟩) := by intro _ _; rfl) : PE X (.Subscript a b pos) (tItS C sp (fun _ => E) ta tb) :=
  pe_itS c F hr hb (fun σ pins H s e s' I h => hx pins σ H s e s' I h) ha hb2 hs
end
/-! ### an own exception made without arguments -/
section
variable {X : Cx} {p pos : Pos}
theorem pmk_oex0 {CX : CXT} {x : Str} {C fI : Addr} {k : Nat} {fd : FuncData} {ps : List Str} {sp : Sp} (T : OexC X.K C) (iC : PySem.W.findIn X.K (.ref C) "__init__" = some (some (.ref fI))) (tI : PySem.W.typeIn X.K (.ref fI) = some (.type "function"))
    (F1 : FnOk X.prog X.w X.K X.mg X.base CX k fI fd ps sp) (hr : Room (k + 1) X.A) (hb : Binds X.K fd ps []) (hx : Passes CX X (fun _ _ _ => False)) (hg : Gl X x) (hm : X.mg x = some (.ref C)) (hdb : (x == ("__debug__" : Str)) = false := by decide) :
    PMk X (.Call (.Name x p) [] [] pos) (tMkO C sp [] tNil) := by
  intro pins s σ H Q I h
  obtain ⟨nm, q, N, bs, bm, sn, sub, ab, col, dd, k0, k1, k2, k3, k5, hC, hbm⟩ := T.cls
  refine wpAny_Call_Name_kw (ld_glob I hg hm ?_ hdb)
  refine PySem.W.callWith_K0 I.kIn T.kC ?_
  obtain ⟨_, q1⟩ := h
  obtain ⟨hp, g, dr, tk, os⟩ := s
  have up : hp.objs.size ≤ hp.objs.size + 1 := Nat.le_succ _
  have hq := q1 (hp.objs.size + 1) (I.hok.fresh up)
  have stay : ∀ b o, hp.get? b = some o → ((hp.push (PySem.W.kdv_tup [])).push (PySem.HandSPX.excO C hp.objs.size)).get? b = some o := fun b o e => Heap.get?_push_of_some _ (Heap.get?_push_of_some _ e)
  have there : ((hp.push (PySem.W.kdv_tup [])).push (PySem.HandSPX.excO C hp.objs.size)).get? (hp.objs.size + 1) = some (PySem.HandSPX.excO C hp.objs.size) := by heap_get
  have I2 := I.laid (t' := tk) (a := hp.objs.size + 1) (o := exo (hp.objs.size + 1) C none) (h' := (hp.push (PySem.W.kdv_tup [])).push (PySem.HandSPX.excO C hp.objs.size)) stay up (exo_ok there)
  have hl : ([Value.ref (hp.objs.size + 1)] ++ []).length = ps.length := F1.len _ _ _ _ hq
  refine wpAny_call (PySem.HandSPX.call_own F.excBase_ValueError (fun Y => PySem.HandSPX.refsVE_contains Y bm hbm) (I.kIn _ _ hC) (PySem.W.looks_findIn I.kIn iC) (fun self => PySem.W.bind_fn I.kIn self tI) (Nat.zero_le _)
    (codeAny_mono (F1.run _ X.stack _ _ ⟨[Value.ref (hp.objs.size + 1)], []⟩ [Value.ref (hp.objs.size + 1)] _ _ (fun _ _ _ => False) (hr.make C [] []) (I2.env0.make C [] []) (hb _ [Value.ref (hp.objs.size + 1)] I2.kIn hl) (show Vals [V.ref (hp.objs.size + 1)] [Value.ref (hp.objs.size + 1)] from .cons rfl .nil) hq) fun r s' hs => ?_))
  match r, hs with
  | .error er, hs => exact hx pins σ _ _ er s' I2 hs
  | .ok (.ret u), hs =>
    obtain ⟨v, H2, os2, bare2, un2, hok2, rv, ev, d, fs, ea, ed, hd1, q2⟩ := hs
    subst ev
    obtain ⟨h2, g2, d2, t2, os'⟩ := s'
    exact ⟨rv, mk_end (raises_own T.exC T.tyC) I up stay un2 hok2 os2 bare2 ea ed hd1 q2⟩
  | .ok .next, hs => exact False.elim hs
  | .ok .brk, hs => exact False.elim hs
  | .ok .cont, hs => exact False.elim hs
end
/-! ### lists turned round, places of items -/
theorem mt_reverseL {X : Cx} : MtM X "list.reverse" (fun x vs H Q => ∃ l xs, x = .ref l ∧ vs = [] ∧ H l = some (.lst xs) ∧ Q .non (upd H l (.lst xs.reverse))) := by
  intro pins s σ H x vs v us Q I rx rv h
  obtain ⟨l, xs, rfl, rfl, hH, q⟩ := h
  obtain rfl : v = Value.ref l := rx
  obtain rfl := rv.zero
  obtain ⟨z, its, n, r, hl, e⟩ := I.lstM hH
  have few : its.length ≤ sizeLine := by rw [← r.length]; omega
  refine call_meets F.slot_list_reverse ⟨_, e, rfl⟩ F.entry_list_reverse (F.args_list_reverse_1 _) (AutoSeq1.list_reverse_list_0 l its.toArray n (by simpa using few)) ⟨e, ?_⟩
  exact ⟨.non, _, I.lset (its' := its.reverse) (ys := xs.reverse) hH e (by simp) r.reverse (by rw [List.length_reverse]; omega), rfl, q⟩
theorem mindexK {X : Cx} (K : PySem.W.Frag) (h : X.K = K := by rfl) : MtR X "list.index" (rIndex K) := h ▸ mt_index
theorem mtupK {X : Cx} (K : PySem.W.Frag) (h : X.K = K := by rfl) : MtR X "tuple.index" (fun x xs H Q => ∃ p, ∃ ys : List Str, ∃ z j, x = .ref p ∧ xs = [.str z] ∧ SqT K H p (ys.map V.str) ∧ ys[j]? = some z ∧ (∀ m, m < j → ys[m]? ≠ some z) ∧ Q (.int (j : Nat)) H) := h ▸ mt_tup_index
/-! ### defs of own classes, ready to be called -/
structure CalIn (P : Program) (w : World) (K : PySem.W.Frag) (mg : Str → Option Value) (base : Heap) (CX : CXT) (k : Nat) (C f : Addr) (fd : FuncData) (ps : List Str) (sp : Sp) : Prop extends CalB P w K mg base CX k f fd ps sp where
  ic : InC K C f
structure CalSub (P : Program) (w : World) (K : PySem.W.Frag) (mg : Str → Option Value) (base : Heap) (CX : CXT) (k : Nat) (C f : Addr) (fd : FuncData) (ps : List Str) (sp : Sp) : Prop extends CalB P w K mg base CX k f fd ps sp where
  su : SubC K C f
structure CalIt (P : Program) (w : World) (K : PySem.W.Frag) (mg : Str → Option Value) (base : Heap) (CX : CXT) (k : Nat) (C f : Addr) (sp : Nat → Sp) : Prop where
  F : FnS P w K mg base CX k f sp
  oi : OitC K C f
end El

set_option Elab.async false
set_option linter.all false
set_option maxRecDepth 100000
set_option maxHeartbeats 4000000
/-! Own words: an own exception whose __init__ takes nothing and keeps nothing. -/
namespace El
open PySem PySem.Spec PyProof.Rows L2 NdefX
/-- its __init__ -/
def spE0 (C : Addr) : Sp := fun vs H Q _ => ∃ a : Addr, vs = [.ref a] ∧ H a = some (exo a C none) ∧ Q .non H
/-- the end of C(): the exception is let go -/
theorem mk_none {X : Cx} {pins : List (Addr × Obj)} {σ : L2.St} {H1 : Hp} {Q : XK} {hp hp2 h2 : Heap} {g1 g2 : Array GenState} {d1 d2 : Drawn} {t1 t2 : Nat} {os1 os2 : OsState} {a C : Addr} (T : Raises X (.ref C)) (I1 : Inv X pins σ H1 ⟨hp, g1, d1, t1, os1⟩)
    (ha : hp.objs.size ≤ a) (k : ∀ b o, hp.get? b = some o → hp2.get? b = some o) (un : Un (frs X.stack) [] (upd H1 a (exo a C none)) (upd H1 a (exo a C none)) hp2 h2) (hok : HOk X.prog X.w (upd H1 a (exo a C none)) h2) (ho : os2 = os1) (hb : AllBare g2)
    (q : Q (.ref C) none H1) : MkP X pins σ Q (.ref a) ⟨h2, g2, d2, t2, os2⟩ := by
  have ea : (upd H1 a (exo a C none)) a = some (exo a C none) := upd_same
  obtain ⟨t0, hoe⟩ := exo_at hok ea
  have na : H1 a = none := I1.hok.fresh ha
  obtain ⟨G, g1', g2'⟩ := restrict h2 fun b => decide (b ≠ a)
  have gk : ∀ {b}, b ≠ a → G.get? b = h2.get? b := fun {b} z => g1' b (decide_eq_true z)
  have ge : G.get? a = none := g2' a (by simp)
  have old : ∀ {b : Addr} {o : Obj}, hp.get? b = some o → b ≠ a := fun {b o} z => Nat.ne_of_lt (Nat.lt_of_lt_of_le (Heap.lt_size z) ha)
  have up : ∀ {b : Addr}, b ≠ a → H1 b = none → upd H1 a (exo a C none) b = none := fun {b} z n => by rw [upd_ne z]; exact n
  have U : Un (frs X.stack) [] H1 H1 hp G :=
    { keep := fun b o z n hf hx => (gk (old z)).trans (un.keep b o (k b o z) (up (old z) n) hf hx)
      slot := fun b o z n hf hx => by
        rw [gk (old z)]
        exact un.slot b o (k b o z) (up (old z) n) hf hx
      free := fun b o z n hx => n
      there := fun b o z hx => by
        rw [gk (old z)]
        exact un.there b o (k b o z) hx
      tups := fun b xs z => z
      frzs := fun b o v z => z
      tbls := fun b ps z => ⟨#[], by rw [Array.append_empty]; exact z⟩ }
  have own_ne : ∀ {b c : Addr}, upd H1 a (exo a C none) c = some (.own b) → c ≠ a := fun {b c} z => at_ne ea z exo_own
  have hok3 : HOk X.prog X.w H1 G := fun b o z => by
    have hba : b ≠ a := fun e => by rw [e, na] at z; cases z
    refine (hok b o (by rw [upd_ne hba]; exact z)).stay (fun c v hc y => ?_) (fun c hc => ?_) (fun c xs hc => ?_)
    · have hca : c ≠ a := hc.elim (fun e => e ▸ hba) fun e => own_ne e
      exact (gk hca).trans y
    · have := own_ne hc
      rwa [upd_ne this] at hc
    · have := at_ne ea hc exo_tup
      rwa [upd_ne this] at hc
  have J : Inv X pins σ H1 ⟨G, g2, d2, t2, os2⟩ := I1.call' (ch := []) ho U hok3 hb (fun b z => absurd z (by simp))
  refine ⟨a, _, _, ⟨G, g2, d2, t2, os2⟩, _, .ref C, none, rfl, J, fun b o z => ?_, ge, hoe, ⟨rfl, rfl⟩, rfl, rfl, na, rfl, hb, T, q⟩
  by_cases hba : b = a
  · rw [hba, ge] at z
    cases z
  · exact (gk hba).symm.trans z
section
variable {X : Cx} {p pos : Pos}
theorem pmk_none {CX : CXT} {x : Str} {C fI : Addr} {k : Nat} {fd : FuncData} {ps : List Str} (T : OexC X.K C) (iC : PySem.W.findIn X.K (.ref C) "__init__" = some (some (.ref fI))) (tI : PySem.W.typeIn X.K (.ref fI) = some (.type "function"))
    (F1 : FnOk X.prog X.w X.K X.mg X.base CX k fI fd ps (spE0 C)) (hr : Room (k + 1) X.A) (hb : Binds X.K fd ps []) (hx : Passes CX X (fun _ _ _ => False)) (hg : Gl X x) (hm : X.mg x = some (.ref C)) (hdb : (x == ("__debug__" : Str)) = false := by decide) :
    PMk X (.Call (.Name x p) [] [] pos) (fun _ H Q => Q (.ref C) none H) := by
  intro pins s σ H Q I h
  obtain ⟨nm, q, N, bs, bm, sn, sub, ab, col, dd, k0, k1, k2, k3, k5, hC, hbm⟩ := T.cls
  refine wpAny_Call_Name_kw (ld_glob I hg hm (PySem.W.callWith_K0 I.kIn T.kC ?_) hdb)
  obtain ⟨hp, g, dr, tk, os⟩ := s
  have up : hp.objs.size ≤ hp.objs.size + 1 := Nat.le_succ _
  have hq : spE0 C [V.ref (hp.objs.size + 1)] (upd H (hp.objs.size + 1) (exo (hp.objs.size + 1) C none)) (fun v H2 => v = .non ∧ H2 = upd H (hp.objs.size + 1) (exo (hp.objs.size + 1) C none)) (fun _ _ _ => False) := ⟨_, rfl, upd_same, rfl, rfl⟩
  have stay : ∀ b o, hp.get? b = some o → ((hp.push (PySem.W.kdv_tup [])).push (PySem.HandSPX.excO C hp.objs.size)).get? b = some o := fun b o e => Heap.get?_push_of_some _ (Heap.get?_push_of_some _ e)
  have there : ((hp.push (PySem.W.kdv_tup [])).push (PySem.HandSPX.excO C hp.objs.size)).get? (hp.objs.size + 1) = some (PySem.HandSPX.excO C hp.objs.size) := by heap_get
  have I2 := I.laid (t' := tk) (a := hp.objs.size + 1) (o := exo (hp.objs.size + 1) C none) (h' := (hp.push (PySem.W.kdv_tup [])).push (PySem.HandSPX.excO C hp.objs.size)) stay up (exo_ok there)
  have hl : ([Value.ref (hp.objs.size + 1)] ++ []).length = ps.length := F1.len _ _ _ _ hq
  refine wpAny_call (PySem.HandSPX.call_own F.excBase_ValueError (fun Y => PySem.HandSPX.refsVE_contains Y bm hbm) (I.kIn _ _ hC) (PySem.W.looks_findIn I.kIn iC) (fun self => PySem.W.bind_fn I.kIn self tI) (Nat.zero_le _)
    (codeAny_mono (F1.run _ X.stack _ _ ⟨[Value.ref (hp.objs.size + 1)], []⟩ [Value.ref (hp.objs.size + 1)] _ _ (fun _ _ _ => False) (hr.make C [] []) (I2.env0.make C [] []) (hb _ [Value.ref (hp.objs.size + 1)] I2.kIn hl) (show Vals [V.ref (hp.objs.size + 1)] [Value.ref (hp.objs.size + 1)] from .cons rfl .nil) hq) fun r s' hs => ?_))
  match r, hs with
  | .error er, hs => exact hx pins σ _ _ er s' I2 hs
  | .ok (.ret u), hs =>
    obtain ⟨v, H2, os2, bare2, un2, hok2, rv, ev, eH⟩ := hs
    subst ev eH
    obtain ⟨h2, g2, d2, t2, os'⟩ := s'
    exact ⟨rv, mk_none (raises_own T.exC T.tyC) I up stay un2 hok2 os2 bare2 h⟩
  | .ok .next, hs => exact False.elim hs
  | .ok .brk, hs => exact False.elim hs
  | .ok .cont, hs => exact False.elim hs
end
/-- the class, its __init__, ready for a raise -/
structure CalE0 (P : Program) (w : World) (K : PySem.W.Frag) (mg : Str → Option Value) (base : Heap) (k : Nat) (x : Str) (C f : Addr) (fd : FuncData) (ps : List Str) : Prop where
  G : FnOk P w K mg base CX0 k f fd ps (spE0 C)
  b : Binds K fd ps []
  X : ExK K C f []
  m : mg x = some (.ref C)
/-- isinstance(e, c), e the exception that the suite holds, without a dict -/
theorem call_isN {X : Cx} {a : Addr} {oe : Obj} {cls : Value} {d : Option Addr} {pn : List (Addr × Obj)} (hz : Zc cls d oe) (hf : ∃ vs, oe.data = .fields vs) : CallR (X.suite a ((a, oe) :: pn)) (.builtin "isinstance") (fun xs H Q => rIsX X.K cls d a xs H Q ∨ ∃ (D : Addr) (c : V) (cv : Value) (b : Bool), xs = [.ref a, c] ∧ cls = .ref D ∧ d = none ∧ ExcC X.K D ∧ (∀ u, RelV c u → u = cv) ∧ PySem.W.kitOne X.K (.ref D) cv = some b ∧ Q (.bl b) H) := by
  intro pins s σ H xs us Q I r h
  rcases h with h | ⟨D, c, cv, b, rfl, rfl, rfl, C, hcv, e, q⟩
  · exact call_isX hz hf pins s σ H xs us Q I r h
  cases r with
  | cons rx rr =>
    cases rr with
    | cons rt rr =>
      cases rr
      cases rx
      have ec := hcv _ rt
      subst ec
      obtain ⟨hget, _⟩ := I.pin (a, oe) (List.mem_append.mpr (.inl List.mem_cons_self))
      obtain ⟨vs, hv⟩ := hf
      have J : PySem.W.InstAt s.heap a oe D none := ⟨hget, hz.1, by unfold PySem.W.notCls; rw [hv] <;> rfl, by rw [hz.2]; exact trivial⟩
      obtain ⟨cdD, hcD, _⟩ := PySem.W.any_some C.hd
      exact PySem.W.kia_one (PySem.W.kitx_exc (by rw [hcD]; rfl) C.hg C.hk C.hs C.ha C.hn C.ht C.hm) I.kIn J e (fun z => nomatch z) fun tk => ⟨.bl b, H, I.kept (t' := tk) fun _ _ z => z, rfl, q⟩
end El

set_option Elab.async false
set_option linter.all false
set_option maxRecDepth 100000
set_option maxHeartbeats 4000000
/-! Own words: comprehensions with two clauses, walk in walk. -/
namespace El
open PySem PySem.Spec PyProof.Rows L2
/-- the second clause's loop, from which Nx is reached -/
def Inner2 (J1 : It) (g1 : TG) (tt1 : TT) (te : TE) (σ2 : L2.St) (vs1 : List Nat) (D : Addr) (Nx : Hp → Prop) (H4 : Hp) : Prop :=
  ∃ W1 : Nat → Nat → Hp → Prop, (∃ m, W1 0 m H4) ∧ ∀ j k H, W1 j k H → (J1.stop j H ∧ Nx H) ∨ (J1.go j H ∧ ∃ Nx1 : Hp → Prop, (∀ H', Nx1 H' → ∃ k', k' < k ∧ W1 (j + 1) k' H') ∧ ∀ x H', J1.yld j H x H' → g1 x (wipe σ2 vs1) H' fun σ3 H5 => wipe σ3 vs1 = wipe σ2 vs1 ∧ tt1 σ3 H5 fun b H6 =>
    if b = true then te σ3 H6 fun y H7 => ∃ acc, H7 D = some (.lst acc) ∧ acc.length < sizeLine ∧ Nx1 (upd H7 D (.lst (acc ++ [y]))) else Nx1 H6)
theorem inner2_it {J1 : It} {n : Nat} {G : Hp → Prop} {Y : Nat → Hp → V → Hp → Prop} (w : Walk J1 n G Y) {g1 : TG} {tt1 : TT} {te : TE} {σ2 : L2.St} {vs1 : List Nat} {D : Addr} {Nx : Hp → Prop} {H4 : Hp} (Pv : Nat → Hp → Prop) (h0 : Pv 0 H4) (hG : ∀ j H, j ≤ n → Pv j H → G H)
    (hs : ∀ j x H H', j < n → Pv j H → Y j H x H' → g1 x (wipe σ2 vs1) H' fun σ3 H5 => wipe σ3 vs1 = wipe σ2 vs1 ∧ tt1 σ3 H5 fun b H6 =>
      if b = true then te σ3 H6 fun y H7 => ∃ acc, H7 D = some (.lst acc) ∧ acc.length < sizeLine ∧ Pv (j + 1) (upd H7 D (.lst (acc ++ [y]))) else Pv (j + 1) H6)
    (hd : ∀ H, Pv n H → Nx H) : Inner2 J1 g1 tt1 te σ2 vs1 D Nx H4 := by
  refine ⟨fun j k H => k = n - j ∧ j ≤ n ∧ Pv j H, ⟨n, by simp, Nat.zero_le _, h0⟩, ?_⟩
  rintro j k H ⟨rfl, hj, p⟩
  have q := hG j H hj p
  by_cases e : j < n
  · exact .inr ⟨w.goes j H e q, Pv (j + 1), fun H' p' => ⟨n - (j + 1), by omega, rfl, e, p'⟩, fun x H' y => hs j x H H' e p (w.yields j H x H' e q y)⟩
  · obtain rfl : j = n := by omega
    exact .inl ⟨w.stops H q, hd H p⟩
theorem lc2_it {J : It} {n : Nat} {G : Hp → Prop} {Y : Nat → Hp → V → Hp → Prop} (w : Walk J n G Y) {g : TG} {tt : TT} {wi1 : TI} {g1 : TG} {tt1 : TT} {te : TE} {vs vs1 : List Nat} {σ : L2.St} {H1 : Hp} {D : Addr} {Qd : Hp → Prop} (Pv : Nat → Hp → Prop) (h0 : Pv 0 (upd H1 D (.lst []))) (hG : ∀ i H, i ≤ n → Pv i H → G H)
    (hs : ∀ i x H H', i < n → Pv i H → Y i H x H' → g x (wipe σ vs) H' fun σ2 H2 => wipe σ2 vs = wipe σ vs ∧ tt σ2 H2 fun b H3 =>
      if b = true then wi1 σ2 H3 fun J1 H4 => Inner2 J1 g1 tt1 te σ2 vs1 D (Pv (i + 1)) H4 else Pv (i + 1) H3)
    (hd : ∀ H, Pv n H → Qd H) :
    ∃ W : Nat → Nat → Hp → Prop, (∃ m, W 0 m (upd H1 D (.lst []))) ∧ ∀ i m H, W i m H →
      (J.stop i H ∧ Qd H) ∨ (J.go i H ∧ ∃ Nx : Hp → Prop, (∀ H', Nx H' → ∃ m', m' < m ∧ W (i + 1) m' H') ∧ ∀ x H', J.yld i H x H' → g x (wipe σ vs) H' fun σ2 H2 => wipe σ2 vs = wipe σ vs ∧ tt σ2 H2 fun b H3 =>
        if b = true then wi1 σ2 H3 fun J1 H4 => Inner2 J1 g1 tt1 te σ2 vs1 D Nx H4 else Nx H3) := by
  refine ⟨fun i m H => m = n - i ∧ i ≤ n ∧ Pv i H, ⟨n, by simp, Nat.zero_le _, h0⟩, ?_⟩
  rintro i m H ⟨rfl, hi, p⟩
  have q := hG i H hi p
  by_cases e : i < n
  · exact .inr ⟨w.goes i H e q, Pv (i + 1), fun H' p' => ⟨n - (i + 1), by omega, rfl, e, p'⟩, fun x H' y => hs i x H H' e p (w.yields i H x H' e q y)⟩
  · obtain rfl : i = n := by omega
    exact .inl ⟨w.stops H q, hd H p⟩
/-- tuple(p), p a list or a tuple: a tuple of the same items stands behind it -/
theorem tupS {X : Cx} : CallR X (.type "tuple") (fun xs H Q => ∃ p ys, xs = [.ref p] ∧ (H p = some (.lst ys) ∨ H p = some (.tup ys)) ∧ ∀ H1 t, (∀ b o, H b = some o → H1 b = some o) → H1 t = some (.tup ys) → Q (.ref t) H1) := cwk call_tuple_of fun xs H Q q => by
  obtain ⟨p, ys, rfl, hp, q⟩ := q
  rcases hp with hp | hp
  · refine ⟨p, ys, rfl, .inl ⟨SqL.of hp, fun l nl => q _ l (fun b o hb => ?_) upd_same⟩⟩
    rw [upd_ne (fun e => by rw [e, nl] at hb; cases hb)]
    exact hb
  · exact ⟨p, ys, rfl, .inr ⟨SqT.of hp, q H p (fun _ _ h => h) hp⟩⟩
end El

set_option Elab.async false
set_option linter.all false
set_option maxRecDepth 100000
set_option maxHeartbeats 4000000
/-! Own words: methods, and classes with keyword-only parameters, called inside a try. -/
namespace El
open PySem PySem.Spec PyProof.Rows L2
section
variable {X : Cx} {CX : CXT} {k : Nat} {C f : Addr} {fd : FuncData} {ps : List Str} {sp : Sp} {E : L2.St → XK} {o e : Expr} {es : List Expr} {m : Str} {pos apos : Pos} {ta : TE} {t : TA} {pl : Sem Bool}
/-- o.m(e, ..), what it lets out being taken where it stands -/
def tMcS (C : Addr) (m : Str) (sp : Sp) (E : L2.St → XK) (ta : TE) (t : TA) : TE := fun σ H Q => ta σ H fun x H1 => ∃ a dx fs, x = .ref a ∧ H1 a = some (.ins C dx fs) ∧ fs.lookup m = none ∧ t σ H1 fun vs H2 => sp (x :: vs) H2 Q (E σ)
theorem pe_mcS (he : PE X o ta) (c : Cls X.K C) (hm : Meth X.K C m f) (F : FnOk X.prog X.w X.K X.mg X.base CX k f fd ps sp) (hr : Room k X.A) (hb : Binds X.K fd ps []) (hx : ∀ σ, PassesAt CX X σ (E σ)) (ha : PA X (e :: es) t)
    (hst : starEach (e :: es) X.env = (false, eval e X.env) :: starEach es X.env := by rfl) (hpl : (backTo pos (starEach es X.env)).any (·.1) = false := by rfl)
    (ht : eval (.Call (.Attribute o m apos) (e :: es) [] pos) X.env = (do
      let ov ← eval o X.env
      standAt apos.atName
      let (f, first) ← holding [ov] (getMethod ov m pl)
      callWith pos f first (backTo pos (starEach (e :: es) X.env)) (backToKw pos (keywordEach [] X.env))) := by rfl) :
    PE X (.Call (.Attribute o m apos) (e :: es) [] pos) (tMcS C m sp E ta t) := by
  refine ⟨fun pins s σ H Q I h => PySem.W.methodCall_KW (pl := pl) (thn (he.run pins s σ H _ I h) fun u s1 ⟨x, H1, I1, rx, a, dx, fs, ex, ea, l, q⟩ => ?_) ht⟩
  subst ex
  cases (show u = Value.ref a from rx)
  refine getmeth_ok I1 ea c hm l (PySem.W.callWith_K (first := [.ref a]) (h₀ := X.base) I.ok.mod.kin hm.kp (thn (ha.run pos pins s1 σ H1 _ I1 q) fun us s2 ⟨vs, H2, I2, r, q2⟩ => ⟨I2.kIn, ?_⟩) hst hpl)
  exact run_fnS (us := .ref a :: us) (vs := .ref a :: vs) F hr hb (hx σ) I2 (.cons rfl r) q2
end
section
variable {X : Cx} {CX : CXT} {k n : Nat} {C f e1 e2 : Addr} {fd : FuncData} {ps ks : List Str} {sp : Sp} {E : L2.St → XK} {x k1 k2 : Str} {p pos : Pos} {e : Expr} {es : List Expr} {kws : List Keyword} {t tk : TA} {g : List Value → List Value → List Value} {gV : List V → List V → List V}
/-- C(e, .., k = v, ..), what its __init__ lets out being taken where it stands -/
def tMkKS (C : Addr) (n m : Nat) (sp : Sp) (gV : List V → List V → List V) (E : L2.St → XK) (t tk : TA) : TE := fun σ H Q => t σ H fun vs H1 => tk σ H1 fun zs H2 => vs.length = n ∧ zs.length = m ∧ ∀ x dx, H2 x = none → H2 dx = none → dx ≠ x →
  sp (gV (.ref x :: vs) zs) (upd (upd H2 dx (.own x)) x (.ins C dx [])) (fun v H3 => v = .non ∧ Q (.ref x) H3) (E σ)
theorem run_mkKS {pins : List (Addr × Obj)} {σ : L2.St} {H : Hp} {s : Shared} {Q : VK} {us ws : List Value} {vs zs : List V} {E : XK} (M : Mk X.K C f) (F : FnOk X.prog X.w X.K X.mg X.base CX k f fd ps sp) (hr : Room (k + 1) X.A) (hb : KBn X.K fd ps (n + 1) ks g gV) (hx : PassesAt CX X σ E)
    (I : Inv X pins σ H s) (r : Vals vs us) (rz : Vals zs ws) (l1 : vs.length = n) (l2 : zs.length = ks.length)
    (h : ∀ x dx, H x = none → H dx = none → dx ≠ x → sp (gV (.ref x :: vs) zs) (upd (upd H dx (.own x)) x (.ins C dx [])) (fun v H2 => v = .non ∧ Q (.ref x) H2) E) :
    wpAny (model X.prog X.w) X.A (call (.ref C) us (ks.zip ws)) (EP X pins σ Q) X.xe s := by
  have fresh := fun n hn => I.hok.fresh (a := n) hn
  have q := h (s.heap.objs.size + 1) s.heap.objs.size (fresh _ (Nat.le_succ _)) (fresh _ (Nat.le_refl _)) (Nat.ne_of_lt (Nat.lt_succ_self _))
  have J := Inv.made (C := C) I
  have rr : Vals (V.ref (s.heap.objs.size + 1) :: vs) (Value.ref (s.heap.objs.size + 1) :: us) := .cons rfl r
  have len : (Value.ref (s.heap.objs.size + 1) :: us).length = n + 1 := by rw [← rr.length, List.length_cons, l1]
  have bt := hb.to _ (Value.ref (s.heap.objs.size + 1) :: us) ws J.kIn len (rz.length.symm.trans l2)
  refine wpAny_call (make_map (f := f) I.kIn M.makes M.init (beq_iff_eq.mp M.fn) (codeAny_mono (F.run _ X.stack _ _ ⟨Value.ref (s.heap.objs.size + 1) :: us, ks.zip ws⟩ _ _ _ E (hr.make C us (ks.zip ws)) (J.env0.make C us (ks.zip ws)) bt (hb.rel rr rz) q) fun r s' hs => ?_))
  match r, hs with
  | .error e, hs => exact hx pins _ _ e s' J hs
  | .ok (.ret u), hs =>
    obtain ⟨v, H', J', rv, ev, q'⟩ := J.after hs
    subst ev
    exact ⟨rv, V.ref (s.heap.objs.size + 1), H', J', rfl, q'⟩
  | .ok .next, hs => exact False.elim hs
  | .ok .brk, hs => exact False.elim hs
  | .ok .cont, hs => exact False.elim hs
theorem pe_mkKS (M : Mk X.K C f) (F : FnOk X.prog X.w X.K X.mg X.base CX k f fd ps sp) (hr : Room (k + 1) X.A) (hg : Gl X x) (hm : X.mg x = some (.ref C)) (hb : KBn X.K fd ps (n + 1) ks g gV) (hx : ∀ σ, PassesAt CX X σ (E σ)) (ha : PA X (e :: es) t) (hkw : PK X kws tk)
    (hall : (backToKw pos (keywordEach kws X.env)).all (·.1.isSome) = true := by rfl) (hks : (backToKw pos (keywordEach kws X.env)).filterMap (·.1) = ks := by rfl) (hdb : (x == ("__debug__" : Str)) = false := by decide)
    (he : starEach (e :: es) X.env = (false, eval e X.env) :: starEach es X.env := by rfl) (hpl : ((backTo pos (starEach (e :: es) X.env)).any (·.1) || (backToKw pos (keywordEach kws X.env)).any (·.1.isNone)) = false := by rfl) :
    PE X (.Call (.Name x p) (e :: es) kws pos) (tMkKS C n ks.length sp gV E t tk) := by
  refine ⟨fun pins s σ H Q I h => wpAny_Call_Name_kw (ld_glob I hg hm (PySem.W.callWith_KW (h₀ := X.base) I.ok.mod.kin M.kp hall (thn (ha.run pos pins s σ H _ I h) fun us s1 ⟨vs, H1, I1, r, q⟩ => ?_) hpl he) hdb)⟩
  refine thn (hkw.run pos pins s1 σ H1 _ I1 q) fun ws s2 ⟨zs, H2, I2, rz, l1, l2, q2⟩ => ⟨I2.kIn, ?_⟩
  rw [hks]
  exact run_mkKS M F hr hb (hx σ) I2 r rz l1 l2 q2
theorem pe_mkAllS (c : CalK X.prog X.w X.K X.mg X.base CX k x C f fd ps (n + 1) k1 k2 e1 e2 sp) (hr : Room (k + 1) X.A) (hg : Gl X x) (hx : ∀ σ, PassesAt CX X σ (E σ)) (ha : PA X (e :: es) t) (hkw : PK X kws tk) (hdb : (x == ("__debug__" : Str)) = false := by decide)
    (he : starEach (e :: es) X.env = (false, eval e X.env) :: starEach es X.env := by rfl) (hpl : ((backTo pos (starEach (e :: es) X.env)).any (·.1) || (backToKw pos (keywordEach kws X.env)).any (·.1.isNone)) = false := by rfl) (hall : (backToKw pos (keywordEach kws X.env)).all (·.1.isSome) = true := by rfl) (hks : (backToKw pos (keywordEach kws X.env)).filterMap (·.1) = [k1, k2] := by rfl) :
    PE X (.Call (.Name x p) (e :: es) kws pos) (tMkKS C n 2 sp (fun vs zs => vs ++ zs) E t tk) := by
  obtain ⟨g, hb⟩ := c.b.all
  exact pe_mkKS c.mkc c.G hr hg c.m hb hx ha hkw hall hks hdb he hpl
end
end El

set_option Elab.async false
set_option linter.all false
set_option maxRecDepth 100000
set_option maxHeartbeats 4000000
/-! Own words: list.remove of a text. -/
namespace El
open PySem PySem.Spec PyProof.Rows L2
theorem pi_listK {X : Cx} {tg l : Expr} {tl : TE} (K : PySem.W.Frag) (hl : PE X l tl) (h : X.K = K := by rfl) : PI X tg l (iList K tl) := h ▸ pi_list hl
theorem pi_tupK {X : Cx} {tg l : Expr} {tl : TE} (K : PySem.W.Frag) (hl : PE X l tl) (h : X.K = K := by rfl) : PI X tg l (iTup K tl) := h ▸ pi_tup hl
theorem vals_at : ∀ {zs : List Str} {us : List Value}, Vals (zs.map V.str) us → ∀ (i : Nat) (h : i < us.length), ∃ t, ∃ z, zs[i]? = some z ∧ us[i] = .str z t
  | [], _, .nil, i, h => absurd h (Nat.not_lt_zero _)
  | z :: zs, _, .cons r q, i, h => by
    obtain ⟨t, rfl⟩ := r
    cases i with
    | zero => exact ⟨t, z, rfl, rfl⟩
    | succ i => exact vals_at q i (Nat.lt_of_succ_lt_succ h)
theorem erase_strs : ∀ (zs : List Str) (j : Nat), (zs.map V.str).eraseIdx j = (zs.eraseIdx j).map V.str
  | [], _ => rfl
  | _ :: _, 0 => rfl
  | z :: zs, j + 1 => congrArg (V.str z :: ·) (erase_strs zs j)
/-- xs.remove(z), xs a list of texts that has z, first at j -/
def rRemS : V → List V → Hp → VK → Prop := fun x vs H Q => ∃ (l : Addr) (zs : List Str) (z : Str) (j : Nat), x = .ref l ∧ vs = [.str z] ∧ H l = some (.lst (zs.map V.str)) ∧ zs[j]? = some z ∧ (∀ m : Nat, m < j → zs[m]? ≠ some z) ∧ Q .non (upd H l (.lst ((zs.eraseIdx j).map V.str)))
theorem mt_removeS {X : Cx} : MtM X "list.remove" rRemS := by
  intro pins s σ H x vs v us Q I rx rvs h
  obtain ⟨l, zs, z, j, rfl, rfl, hl, hj, no, q⟩ := h
  cases rx
  obtain ⟨u, rfl, t, rfl⟩ := rvs.one
  obtain ⟨sz, its, n, r, len, e⟩ := I.lstM hl
  have lens : its.length = zs.length := by rw [← r.length, List.length_map]
  have jz : j < zs.length := (List.getElem?_eq_some_iff.mp hj).1
  have eqs : ∀ (i : Nat) (h : i < its.length), MeetsSeq.EqGives its[i] (.str z t) (decide (zs[i]? = some z)) := fun i h => by
    obtain ⟨t2, y, e1, e2⟩ := vals_at r i h
    rw [e2, e1]
    have k : MeetsSeq.EqGives (.str y t2) (.str z t) (decide (y = z)) := fun _ _ _ _ _ _ h => wpAny_eqBool_str h
    have e3 : decide (y = z) = decide (some y = some z) := by
      rw [Bool.eq_iff_iff, decide_eq_true_iff, decide_eq_true_iff, Option.some.injEq]
    rw [e3] at k
    exact k
  let f : Value → Bool := fun y => match y with
    | .str y _ => decide (y = z)
    | _ => false
  have fe : ∀ (i : Nat) (h : i < its.length), f its[i] = decide (zs[i]? = some z) := fun i h => by
    obtain ⟨t2, y, e1, e2⟩ := vals_at r i h
    rw [e2, e1]
    show decide (y = z) = decide (some y = some z)
    rw [Bool.eq_iff_iff, decide_eq_true_iff, decide_eq_true_iff, Option.some.injEq]
  refine call_meets PySem.F.slot_list_remove ⟨_, e, rfl⟩ PySem.F.entry_list_remove (PySem.F.args_list_remove_2 _ _)
    (MeetsSeq.list_remove l its.toArray n (.str z t) f (fun y hy => ?_) j (by rw [List.size_toArray]; omega) ?_ (fun m hm mj => ?_) (by rw [List.size_toArray]; rw [List.length_map] at sz len; omega)) ⟨e, .non, _, I.lset (its' := its.eraseIdx j) (t' := s.toks) hl e ?_ (erase_strs zs j ▸ r.eraseIdx j) ?_, rfl, q⟩
  · obtain ⟨i, hi, rfl⟩ := List.getElem_of_mem (show y ∈ its by simpa using hy)
    rw [fe i hi]
    exact eqs i hi
  · have z1 := fe j (by omega)
    simpa [hj] using z1
  · have z1 := fe m (by omega)
    simpa [no m mj] using z1
  · show its.toArray.eraseIdxIfInBounds j = (its.eraseIdx j).toArray
    rw [List.eraseIdxIfInBounds_toArray]
  · have := len_erase zs j
    rw [List.length_map] at *
    omega
end El

set_option Elab.async false
set_option linter.all false
set_option maxRecDepth 100000
set_option maxHeartbeats 4000000
/-! Own words: iterating an own class whose `__iter__` returns iter(..) of a dict's values; an own `__setitem__`; own classes with a star parameter. -/
namespace El
open PySem PySem.Spec PyProof.Rows L2 StX
/-! ### d.values() and iter(..) of it -/
/-- at v the view of the values of the dict at d -/
def VvO (d v : Addr) : HO := .ext fun h => h.IsValuesView v d
def vvObj (d : Addr) : Obj := { cls := .type "dict_values", data := .fields #[.ref d] }
theorem vvO_ok {P : Program} {w : World} {H : Hp} {h : Heap} {d v : Addr} (e : h.get? v = some (vvObj d)) : ObjOk P w H h v (VvO d v) := ⟨⟨_, e, rfl, rfl⟩, ⟨_, e⟩, fun _ _ ⟨o, h1, h2, h3⟩ k => ⟨o, k _ h1, h2, h3⟩⟩
/-- e.values(), e a dict that no one changes now -/
def tVals (te : TE) : TE := fun σ H Q => te σ H fun x H1 => ∃ d o kvs, x = .ref d ∧ H1 d = some (.frz o (.dK kvs)) ∧ ∀ v, H1 v = none → Q (.ref v) (upd H1 v (VvO d v))
section
variable {X : Cx}
theorem pe_vals {e : Expr} {te : TE} {apos cpos : Pos} (he : PE X e te) (hbase : attributeBase e "values" X.env (eval e X.env) = eval e X.env := by rfl) (hline : (apos.endLine == cpos.line) = true := by rfl) :
    PE X (.Call (.Attribute e "values" apos) [] [] cpos) (tVals te) := by
  refine ⟨fun pins s σ H Q I h => wpAny_Call_method (T := "dict") (id := "dict.values") hbase rfl hline F.plainAttrs_dict F.slot_dict_values F.type_dict_values (thn (he.run pins s σ H _ I h) fun u s1 ⟨x, H1, I1, rx, q⟩ => ?_)⟩
  obtain ⟨d, o, kvs, ex, hd, q⟩ := q
  subst ex
  cases (show u = Value.ref d from rx)
  obtain ⟨hs, _, _, _, _, vs, _, _, _, hm⟩ := I1.frzK hd
  refine ⟨hm.dictOf.typeIs, hm.dictOf.mapOf.noDict, ?_⟩
  have stay : ∀ b ob, s1.heap.get? b = some ob → (s1.heap.push (vvObj d)).get? b = some ob := fun b ob z => Heap.get?_push_of_some _ z
  have fin : EP X pins σ Q (.ref s1.heap.objs.size) { s1 with heap := s1.heap.push (vvObj d) } := ⟨.ref s1.heap.objs.size, _, I1.laid (t' := s1.toks) stay (Nat.le_refl _) (vvO_ok (Heap.get?_push_size _ rfl)), rfl, q _ (I1.hok.fresh (Nat.le_refl _))⟩
  show wpAny _ _ (callWith cpos (.builtin "dict.values") [.ref d] [] []) _ X.xe s1
  exact method_meetsIn F.slot_dict_values F.entry_dict_values rfl (PySem.evalArgs_none ⟨rfl, hm.dictOf.typeIs, F.args_dict_values_1 _, _, meets_dict_values (mixKind X.prog X.w) d hs, ⟨vs, hm.dictOf⟩, fin⟩)
end
def vitObj (d : Addr) (n ep : Nat) : Obj := { cls := .type "dict_valueiterator", data := .fields #[.ref d, .int 0 0, .int n 0, .int ep 0] }
/-- at it the iterator of the values of the dict at d, at its beginning; o is the dict's object -/
def VitO (d : Addr) (o : Obj) (n : Nat) (it : Addr) : HO := .ext fun h => ∃ es ep, o.data = .dict es ep ∧ h.IsValIter it d 0 n ep
theorem vitO_ok {P : Program} {w : World} {H : Hp} {h : Heap} {d it : Addr} {o : Obj} {n ep : Nat} {es : Array DictEntry} (ho : o.data = .dict es ep) (e : h.get? it = some (vitObj d n ep)) : ObjOk P w H h it (VitO d o n it) :=
  ⟨⟨es, ep, ho, _, e, rfl, rfl⟩, ⟨_, e⟩, fun _ _ ⟨es, ep, ho, ob, h1, h2⟩ k => ⟨es, ep, ho, ob, k _ h1, h2⟩⟩
def rIterV (n : Nat) : List V → Hp → VK → Prop := fun xs H Q => ∃ (v d : Addr) (o : Obj) (kvs : List (Key × V)), xs = [.ref v] ∧ H v = some (VvO d v) ∧ H d = some (.frz o (.dK kvs)) ∧ ∀ it, H it = none → n ≤ it → Q (.ref it) (upd H it (VitO d o kvs.length it))
theorem call_iterV {X : Cx} : CallR X (.builtin "iter") (rIterV X.s_0.heap.objs.size) := by
  intro pins s σ H xs us Q I r h
  obtain ⟨v, d, o, kvs, rfl, hv, hd, q⟩ := h
  obtain rfl := Vals.ref1 r
  obtain ⟨hs, hgd, hx, es, ep, vs, hdt, hsz, kv, hm⟩ := I.frzK hd
  have view : s.heap.IsValuesView v d := (I.hok v _ hv).1
  have hl : vs.length = kvs.length := (Paired.length kv).symm
  refine Calls.call_function_entry (by decide +kernel) (by decide +kernel) PySem.W.kdk_entry_iter (PySem.W.kdk_args_iter _) ?_
  unfold Builtin.«iter»
  refine wpAny_bind (m := someArgs "iter" 1 2 _) (wpAny_of_eq (a := [Value.ref v]) (by first | rfl | kernel_rfl!) ?_)
  refine wpAny_bind (wpAny_pyIter_values (d := d) (knd := mixKind X.prog X.w) view hm (wpAny_pure ⟨_, rfl, ?_⟩))
  rw [hl]
  exact ⟨.ref s.heap.objs.size, _, I.laid (t' := s.toks) (h' := s.heap.push (vitObj d kvs.length ep)) (fun b u e => Heap.get?_push_of_some _ e) (Nat.le_refl _) (vitO_ok hdt (Heap.get?_push_size _ rfl)), rfl, q _ (I.hok.fresh (Nat.le_refl _)) I.sz⟩
theorem iterVK {X : Cx} (n : Nat) (hn : X.s_0.heap.objs.size = n := by rfl) : CallR X (.builtin "iter") (rIterV n) := hn ▸ call_iterV
/-! ### for x in a, a of the class at C -/
/-- `__iter__` gives a tuple's iterator; no word of how many objects there were -/
def iOwnTn (K : PySem.W.Frag) (C : Addr) (sp : Nat → Sp) (E : XK) (te : TE) : TI := fun σ H R => te σ H fun x H1 => ∃ a dx fs, x = .ref a ∧ H1 a = some (.ins C dx fs) ∧ ∀ m, sp m [.ref a] H1 (fun v H2 => ∃ t it, v = .ref it ∧ H2 it = some (TitO t it) ∧ m ≤ it ∧ R (Itt K t) (ItX.dropH H2 it)) E
/-- `__iter__` gives the iterator of a dict's values -/
def iOwnVn (C : Addr) (sp : Nat → Sp) (E : XK) (te : TE) : TI := fun σ H R => te σ H fun x H1 => ∃ a dx fs, x = .ref a ∧ H1 a = some (.ins C dx fs) ∧ ∀ m, sp m [.ref a] H1 (fun v H2 => ∃ d o kvs it, v = .ref it ∧ H2 d = some (.frz o (.dK kvs)) ∧ d ≠ it ∧ H2 it = some (VitO d o kvs.length it) ∧ m ≤ it ∧ R (Itd d o kvs) (ItX.dropH H2 it)) E
section
variable {X : Cx} {CX : CXT} {k : Nat} {C f : Addr} {sp : Nat → Sp} {E : XK} {tg e : Expr} {te : TE}
theorem pi_ownTn (K : PySem.W.Frag) (c : OitC X.K C f) (F : FnS X.prog X.w X.K X.mg X.base CX k f sp) (hr : Room k X.A) (hx : Passes CX X E) (he : PE X e te) (hK : X.K = K := by rfl) : PI X tg e (iOwnTn K C sp E te) := by
  subst hK
  refine ⟨fun pins s σ H R I h => thn (he.run pins s σ H _ I h) fun v s1 ⟨x, H1, I1, r1, a, dx, fs, ex, ea, q⟩ => ?_⟩
  subst ex
  obtain rfl : v = Value.ref a := r1
  obtain ⟨m, fr⟩ := I1.fr
  obtain ⟨mA, O, _⟩ := ins_get I1.hok ea
  obtain ⟨od, J, _⟩ := O.look
  refine PySem.W.owit_iter fr I1.ok.mod.kin J c.at_ c.fn (wpAny_call (codeAny_mono (F X.A X.stack s1 H1 [.ref a] [.ref a] _ E hr I1.env0 (.cons rfl .nil) (q _)) fun r s' hq => ?_))
  match r, hq with
  | .error e, hq => exact hx pins σ H1 s1 e s' I1 hq
  | .ok (.ret u), hq =>
    obtain ⟨w', H2, I2, rw', t, it, rfl, hi, hn, hR⟩ := I1.after hq
    obtain rfl : u = Value.ref it := rw'
    have eo := titO_get I2 hi
    have hi' := hi
    unfold TitO at hi'
    have LT : PySem.W.Looks (model X.prog X.w) s'.heap (typeOf (.ref it)) (.type "tuple_iterator") := (PySem.W.Looks.ld (part := none) eo).andThen .now
    have LN : PySem.W.Looks (model X.prog X.w) s'.heap (specialOf (.ref it) (Str.ofString "__next__")) (some (.builtin "tuple_iterator.__next__")) := LT.andThen (PySem.W.Looks.of_pure slot_tupleiter_next.lookup)
    refine LN.here ⟨it, [it], _, _, ItX.dropH H2 it, rfl, ItX.inv_drop I2 hi', turn_tuple t it, ⟨_, eo, rfl, rfl⟩, fun b hb => ?_, hR⟩
    rw [show b = it by simpa using hb]
    exact ItX.inv_fp I2 hi (Nat.le_trans I1.sz hn)
  | .ok .next, hq => exact False.elim hq
  | .ok .brk, hq => exact False.elim hq
  | .ok .cont, hq => exact False.elim hq
theorem pi_ownVn (c : OitC X.K C f) (F : FnS X.prog X.w X.K X.mg X.base CX k f sp) (hr : Room k X.A) (hx : Passes CX X E) (he : PE X e te) : PI X tg e (iOwnVn C sp E te) := by
  refine ⟨fun pins s σ H R I h => thn (he.run pins s σ H _ I h) fun v s1 ⟨x, H1, I1, r1, a, dx, fs, ex, ea, q⟩ => ?_⟩
  subst ex
  obtain rfl : v = Value.ref a := r1
  obtain ⟨m, fr⟩ := I1.fr
  obtain ⟨mA, O, _⟩ := ins_get I1.hok ea
  obtain ⟨od, J, _⟩ := O.look
  refine PySem.W.owit_iter fr I1.ok.mod.kin J c.at_ c.fn (wpAny_call (codeAny_mono (F X.A X.stack s1 H1 [.ref a] [.ref a] _ E hr I1.env0 (.cons rfl .nil) (q _)) fun r s' hq => ?_))
  match r, hq with
  | .error e, hq => exact hx pins σ H1 s1 e s' I1 hq
  | .ok (.ret u), hq =>
    obtain ⟨w', H2, I2, rw', d, o, kvs, it, rfl, hd, hne, hi, hn, hR⟩ := I1.after hq
    obtain rfl : u = Value.ref it := rw'
    obtain ⟨es, ep, ho, st⟩ : ∃ es ep, o.data = .dict es ep ∧ s'.heap.IsValIter it d 0 kvs.length ep := (I2.hok it _ hi).1
    have hi' := hi
    unfold VitO at hi'
    have LT : PySem.W.Looks (model X.prog X.w) s'.heap (typeOf (.ref it)) (.type "dict_valueiterator") := by
      obtain ⟨ob, e1, e2, _⟩ := st
      rw [← e2]
      exact (PySem.W.Looks.ld (part := none) e1).andThen .now
    have LN : PySem.W.Looks (model X.prog X.w) s'.heap (specialOf (.ref it) (Str.ofString "__next__")) (some (.builtin "dict_valueiterator.__next__")) := LT.andThen (PySem.W.Looks.of_pure PySem.F.slot_dict_valueiterator_next.lookup)
    refine LN.here ⟨it, [it], _, _, ItX.dropH H2 it, rfl, ItX.inv_drop I2 hi', turn_vals it ho, st, fun b hb => ?_, hR⟩
    rw [show b = it by simpa using hb]
    exact ItX.inv_fp I2 hi (Nat.le_trans I1.sz hn)
  | .ok .next, hq => exact False.elim hq
  | .ok .brk, hq => exact False.elim hq
  | .ok .cont, hq => exact False.elim hq
end
/-! ### a[i] = v, a of the class at C -/
structure SetC (K : PySem.W.Frag) (C f : Addr) : Prop where
  at_ : PySem.W.findIn K (.ref C) "__setitem__" = some (some (.ref f))
  fn : PySem.W.isFn K (.ref f) = true
  sq : PySem.W.noSeq K C = true
def rSetO (C : Addr) (sp : Sp) (E : XK) : TSet := fun o i v H Q => ∃ a dx fs, o = .ref a ∧ H a = some (.ins C dx fs) ∧ sp [.ref a, i, v] H (fun _ H' => Q H') E
theorem set_own {X : Cx} {CX : CXT} {k : Nat} {C f : Addr} {fd : FuncData} {ps : List Str} {sp : Sp} {E : XK} (c : SetC X.K C f) (F : FnOk X.prog X.w X.K X.mg X.base CX k f fd ps sp) (hr : Room k X.A) (hb : Binds X.K fd ps []) (hx : Passes CX X E) : PSet X (rSetO C sp E) := by
  intro pins s σ H o i v ov iv u Q I ro ri rv h
  obtain ⟨a, dx, fs, rfl, ea, q⟩ := h
  obtain rfl : ov = Value.ref a := ro
  obtain ⟨m, fr⟩ := I.fr
  obtain ⟨mA, O, _⟩ := ins_get I.hok ea
  obtain ⟨od, J, _⟩ := O.look
  refine PySem.W.ksp_setItem fr I.ok.mod.kin J c.sq c.at_ c.fn ?_
  have hl : ([Value.ref a, iv, u] ++ []).length = ps.length := F.len _ _ _ _ q
  have bt := hb s [.ref a, iv, u] I.kIn hl
  rw [List.append_nil] at bt
  refine wpAny_call (codeAny_mono (F.run X.A X.stack s H ⟨[.ref a, iv, u], []⟩ [.ref a, iv, u] [.ref a, i, v] _ E hr I.env0 bt (.cons rfl (.cons ri (.cons rv .nil))) q) fun r s' hq => ?_)
  match r, hq with
  | .error e, hq => exact hx pins σ H s e s' I hq
  | .ok (.ret u), hq =>
    obtain ⟨w', H2, I2, _, q2⟩ := I.after hq
    exact ⟨H2, I2, q2⟩
  | .ok .next, hq => exact False.elim hq
  | .ok .brk, hq => exact False.elim hq
  | .ok .cont, hq => exact False.elim hq
structure CalSet (P : Program) (w : World) (K : PySem.W.Frag) (mg : Str → Option Value) (base : Heap) (CX : CXT) (k : Nat) (C f : Addr) (fd : FuncData) (ps : List Str) (sp : Sp) : Prop extends CalB P w K mg base CX k f fd ps sp where
  se : SetC K C f
/-! ### star parameters -/
/-- what a def with the parameters before and a star parameter promises: the star's tuple is new -/
def spV (n : Nat) (sp : Sp) : Sp := fun vs H Q E => ∃ ws rest, vs = ws ++ rest ∧ ws.length = n ∧ rest.length ≤ sizeLine ∧ ∀ p, H p = none → sp (ws ++ [V.ref p]) (upd H p (.tup rest)) Q E
section
variable {P : Program} {w : World} {K : PySem.W.Frag} {mg : Str → Option Value} {base : Heap} {k : Nat} {f : Addr} {x qual : Str} {st : Stmt} {fd : FuncData} {N ps : List Str} {pv : Str} {sp : Sp}
theorem Fun.okV0 (F : Fun K x qual st f fd) (S : FnScope N (ps ++ [pv]) (defScope st))
    (hb : ∀ (kV doc pm : Value) (an : Option Addr) (cdv ct : Value) (us rest : List Value), us.length = ps.length → bindArgs (PySem.W.fnOf x qual (defArgs st) (defBody st) (defScope st) .none kV doc pm an cdv ct) ⟨us ++ rest, []⟩ = (newTuple rest >>= fun t => pure (ps.zip us ++ [(pv, t)])))
    (body : ∀ (cdv : Value) (A : Around) (outer : List Env) (s : Shared) (H : Hp) (vs : List V) (Q : VK) (E : XK), Room k (A.deeper (envOfC qual (defScope st) s.heap.objs.size f cdv)) → sp vs H Q E →
      ∃ t, PSs (cxOf CX0 P w K mg base N qual (defScope st) f cdv A outer s H E).nox (defBody st) t ∧ t { nx := fun _ H' => Q .non H', rt := Q } (start N vs) H) : FnR P w K mg base CX0 (k + 1) f (spV ps.length sp) := by
  obtain ⟨oc, od, kV, doc, pm, an, cdv, ct, osl, rfl, lk, hcd⟩ := F.ex
  exact fn_star lk hcd S cxUp_none (hb kV doc pm an cdv ct) fun A outer s H vs Q E hr hsp => (body cdv A outer s H vs Q E hr hsp).imp fun t z => ⟨z.1.nox, z.2⟩
theorem Fun.okVX (F : Fun K x qual st f fd) (S : FnScope N (ps ++ [pv]) (defScope st))
    (hb : ∀ (kV doc pm : Value) (an : Option Addr) (cdv ct : Value) (us rest : List Value), us.length = ps.length → bindArgs (PySem.W.fnOf x qual (defArgs st) (defBody st) (defScope st) .none kV doc pm an cdv ct) ⟨us ++ rest, []⟩ = (newTuple rest >>= fun t => pure (ps.zip us ++ [(pv, t)])))
    (body : ∀ (cdv : Value) (A : Around) (outer : List Env) (s : Shared) (H : Hp) (vs : List V) (Q : VK) (E : XK), Room k (A.deeper (envOfC qual (defScope st) s.heap.objs.size f cdv)) → sp vs H Q E →
      ∃ t, PSs (cxOf (L2.CX P w) P w K mg base N qual (defScope st) f cdv A outer s H E) (defBody st) t ∧ t { nx := fun _ H' => Q .non H', rt := Q } (start N vs) H) : FnR P w K mg base (L2.CX P w) (k + 1) f (spV ps.length sp) := by
  obtain ⟨oc, od, kV, doc, pm, an, cdv, ct, osl, rfl, lk, hcd⟩ := F.ex
  exact fn_star lk hcd S cxUp (hb kV doc pm an cdv ct) fun A outer s H vs Q E hr hsp => body cdv A outer s H vs Q E hr hsp
end
theorem FnR.up {P : Program} {w : World} {K : PySem.W.Frag} {mg : Str → Option Value} {base : Heap} {CX : CXT} {j k : Nat} {f : Addr} {sp : Sp} (F : FnR P w K mg base CX j f sp) (h : j ≤ k) : FnR P w K mg base CX k f sp := fun A outer s H us vs Q E hr => F A outer s H us vs Q E (hr.mono h)
/-- a class whose `__init__` has a star parameter -/
structure CalIV (P : Program) (w : World) (K : PySem.W.Frag) (mg : Str → Option Value) (base : Heap) (CX : CXT) (k : Nat) (x : Str) (C f : Addr) (n : Nat) (sp : Sp) : Prop where
  G : FnR P w K mg base CX k f (spV n sp)
  mkc : Mk K C f
  m : mg x = some (.ref C)
/-- a def of the module with a star parameter -/
structure CalV (P : Program) (w : World) (K : PySem.W.Frag) (mg : Str → Option Value) (base : Heap) (CX : CXT) (k : Nat) (x : Str) (f : Addr) (n : Nat) (sp : Sp) : Prop where
  G : FnR P w K mg base CX k f (spV n sp)
  kp : PySem.W.keepIn K (.ref f) = true
  m : mg x = some (.ref f)
section
variable {X : Cx} {CX : CXT} {k : Nat} {C f : Addr} {sp : Sp} {E : XK} {x : Str} {e : Expr} {es : List Expr} {t : TA} {p pos : Pos}
/-- C(e, .., *y) -/
theorem pe_makeRS (M : Mk X.K C f) (F : FnR X.prog X.w X.K X.mg X.base CX k f sp) (hr : Room (k + 1) X.A) (hg : Gl X x) (hm : X.mg x = some (.ref C)) (hx : Passes CX X E) (ha : PA X (e :: es) t) (hdb : (x == ("__debug__" : Str)) = false := by decide)
    (he : starEach (e :: es) X.env = (false, eval e X.env) :: starEach es X.env := by rfl) (hst : (backTo pos (starEach es X.env)).any (·.1) = true := by rfl) : PE X (.Call (.Name x p) (e :: es) [] pos) (StX.tMakeR C sp E t) := by
  refine ⟨fun pins s σ H Q I h => wpAny_Call_Name_kw (ld_glob I hg hm ?_ hdb)⟩
  exact PySem.W.callWith_S2 (h₀ := X.base) I.ok.mod.kin M.kp (thn (ha.run pos pins s σ H _ I h) fun us s1 ⟨vs, H1, I1, r, q⟩ => ⟨I1.kIn, StX.run_makeR M F hr hx I1 r q⟩) he hst
/-- f(e, ..), f a def with a star parameter -/
theorem pe_callR (F : FnR X.prog X.w X.K X.mg X.base CX k f sp) (hr : Room k X.A) (hk : PySem.W.keepIn X.K (.ref f) = true) (hg : Gl X x) (hm : X.mg x = some (.ref f)) (hx : Passes CX X E) (ha : PA X (e :: es) t) (hd : (x == ("__debug__" : Str)) = false := by decide)
    (he : starEach (e :: es) X.env = (false, eval e X.env) :: starEach es X.env := by rfl) (hpl : (backTo pos (starEach es X.env)).any (·.1) = false := by rfl) : PE X (.Call (.Name x p) (e :: es) [] pos) (fun σ H Q => t σ H fun vs H1 => sp vs H1 Q E) := by
  refine ⟨fun pins s σ H Q I h => wpAny_Call_Name_kw (ld_glob I hg hm ?_ hd)⟩
  exact PySem.W.callWith_K (h₀ := X.base) I.ok.mod.kin hk (thn (ha.run pos pins s σ H _ I h) fun us s1 ⟨vs, H1, I1, r, q⟩ => ⟨I1.kIn, wpAny_call (run_fnR F hr hx I1 r q)⟩) he hpl
end
/-- three parameters ahead of a star parameter -/
theorem bind_star3 {B : List Value → Sem (List (Str × Value))} {p1 p2 p3 pv : Str} (h0 : ∀ a b c, B [a, b, c] = (newTuple [] >>= fun t => pure [(p1, a), (p2, b), (p3, c), (pv, t)])) (h1 : ∀ a b c r rs, B (a :: b :: c :: r :: rs) = (newTuple (r :: rs) >>= fun t => pure [(p1, a), (p2, b), (p3, c), (pv, t)])) :
    ∀ us rest : List Value, us.length = [p1, p2, p3].length → B (us ++ rest) = (newTuple rest >>= fun t => pure ([p1, p2, p3].zip us ++ [(pv, t)]))
  | [a, b, c], [], _ => h0 a b c
  | [a, b, c], r :: rs, _ => h1 a b c r rs
end El

set_option Elab.async false
set_option linter.all false
set_option maxRecDepth 100000
set_option maxHeartbeats 4000000
/-! Own words: rows of ints and texts (keys of a dict) compared, looked for and sorted; setdefault and del for dicts by such rows. -/
namespace El
open PySem PySem.Spec PyProof.Rows L2
instance decKy (k : List Key) (ks : List (List Key)) : Decidable (k ∈ ks) := decidable_of_iff ((ks.any fun j => decide (j = k)) = true) (by rw [List.any_eq_true]; exact ⟨fun ⟨j, h, e⟩ => by rw [← of_decide_eq_true e]; exact h, fun h => ⟨k, h, decide_eq_true rfl⟩⟩)
section
variable {X : Cx}
/-! ### rows of ints and texts as data -/
def kD : Key → PyData
  | .inl i => .int i
  | .inr z => .str z
def ksD (k : List Key) : PyData := .tuple (k.map kD)
theorem kD_eqv : ∀ a b : Key, PyData.eqv (kD a) (kD b) = decide (a = b)
  | .inl i, .inl j => by
    simp only [kD, PyData.eqv]
    rw [Bool.eq_iff_iff, beq_iff_eq, decide_eq_true_iff, Sum.inl.injEq]
  | .inl i, .inr z => by simp [kD, PyData.eqv]
  | .inr z, .inl i => by simp [kD, PyData.eqv]
  | .inr z, .inr y => by
    simp only [kD, PyData.eqv]
    rw [Bool.eq_iff_iff, beq_iff_eq, decide_eq_true_iff, Sum.inr.injEq]
theorem kDs_eqv : ∀ a b : List Key, PyData.eqvAll (a.map kD) (b.map kD) = decide (a = b)
  | [], [] => by simp [PyData.eqvAll]
  | [], _ :: _ => by simp [PyData.eqvAll]
  | _ :: _, [] => by simp [PyData.eqvAll]
  | x :: a, y :: b => by
    simp only [List.map_cons, PyData.eqvAll]
    rw [kD_eqv, kDs_eqv a b, Bool.eq_iff_iff, Bool.and_eq_true, decide_eq_true_iff, decide_eq_true_iff, decide_eq_true_iff, List.cons.injEq]
theorem ksD_eqv (a b : List Key) : PyData.eqv (ksD a) (ksD b) = decide (a = b) := by
  unfold ksD
  simp only [PyData.eqv]
  exact kDs_eqv a b
theorem kD_plains : ∀ k : List Key, PyData.plainAll (k.map kD) = true
  | [] => by simp [PyData.plainAll]
  | .inl i :: r => by simp [PyData.plainAll, PyData.plain, kD, kD_plains r]
  | .inr z :: r => by simp [PyData.plainAll, PyData.plain, kD, kD_plains r]
theorem ksD_plain (k : List Key) : PyData.plain (ksD k) = true := by
  unfold ksD
  simp only [PyData.plain]
  exact kD_plains k
theorem kD_depths : ∀ k : List Key, PyData.depthAll (k.map kD) ≤ 1
  | [] => by simp [PyData.depthAll]
  | .inl i :: r => by
    have := kD_depths r
    simp only [List.map_cons, PyData.depthAll, kD, PyData.depth]
    omega
  | .inr z :: r => by
    have := kD_depths r
    simp only [List.map_cons, PyData.depthAll, kD, PyData.depth]
    omega
theorem ksD_depth (k : List Key) : (ksD k).depth ≤ 2 := by
  have := kD_depths k
  unfold ksD
  simp only [PyData.depth]
  omega
/-- a row of ints and texts -/
def KyAt (K : PySem.W.Frag) (H : Hp) (v : V) (k : List Key) : Prop := ∃ r, v = .ref r ∧ SqT K H r (k.map kV)
theorem kV_dp {K : PySem.W.Frag} {H : Hp} : ∀ k : Key, Dp K H (kV k) (kD k)
  | .inl _ => .int _
  | .inr _ => .str _
theorem kVs_dp {K : PySem.W.Frag} {H : Hp} : ∀ k : List Key, DpAll K H (k.map kV) (k.map kD)
  | [] => .nil
  | a :: r => .cons (kV_dp a) (kVs_dp r)
theorem KyAt.dp {K : PySem.W.Frag} {H : Hp} {v : V} {k : List Key} (h : KyAt K H v k) : Dp K H v (ksD k) := by
  obtain ⟨r, rfl, h⟩ := h
  exact .tup h (kVs_dp k)
inductive KysIn (K : PySem.W.Frag) (H : Hp) : List V → List (List Key) → Prop
  | nil : KysIn K H [] []
  | cons {v : V} {k : List Key} {vs : List V} {ks : List (List Key)} : KyAt K H v k → KysIn K H vs ks → KysIn K H (v :: vs) (k :: ks)
theorem KysIn.dp {K : PySem.W.Frag} {H : Hp} {vs : List V} {ks : List (List Key)} (h : KysIn K H vs ks) : DpAll K H vs (ks.map ksD) := by
  induction h with
  | nil => exact .nil
  | cons a _ ih => exact .cons a.dp ih
theorem ksD_plainAll : ∀ ks : List (List Key), PyData.plainAll (ks.map ksD) = true
  | [] => by simp [PyData.plainAll]
  | k :: r => by
    rw [List.map_cons]
    simp only [PyData.plainAll, Bool.and_eq_true]
    exact ⟨ksD_plain k, ksD_plainAll r⟩
theorem ksD_any (ks : List (List Key)) (k : List Key) : ((ks.map ksD).any fun d => PyData.eqv d (ksD k)) = decide (k ∈ ks) := by
  induction ks with
  | nil => simp
  | cons a r ih =>
    rw [List.map_cons, List.any_cons, ih, ksD_eqv, Bool.eq_iff_iff, Bool.or_eq_true, decide_eq_true_iff, decide_eq_true_iff, decide_eq_true_iff, List.mem_cons]
    exact ⟨fun h => h.imp (fun e => e.symm) id, fun h => h.imp (fun e => e.symm) id⟩
def rInKy (K : PySem.W.Frag) (neg : Bool) : R2 := fun x y H Q => ∃ (k : List Key) (l : Addr) (vs : List V) (ks : List (List Key)), KyAt K H x k ∧ y = .ref l ∧ (SqT K H l vs ∨ SqL K H l vs) ∧ KysIn K H vs ks ∧ Q (.bl (if neg then !decide (k ∈ ks) else decide (k ∈ ks))) H
theorem op_inKy (K : PySem.W.Frag) (neg : Bool) (hu : X.A.units + 64 < cLine) (hK : X.K = K := by rfl) : OpR X (compareOp (if neg then .NotIn else .In)) (rInKy K neg) := by
  subst hK
  intro pins s σ H x y v u Q I rx ry h
  obtain ⟨k, l, vs, ks, hp, rfl, hl, hv, q⟩ := h
  obtain ⟨bs, rd⟩ := Dp.reads I _ x v hp.dp rx
  have room : X.A.units + 1 + min (PyData.depthAll (ks.map ksD)) (ksD k).depth < cLine := by
    have := ksD_depth k
    have := Nat.min_le_right (PyData.depthAll (ks.map ksD)) (ksD k).depth
    omega
  rcases hl with hl | hl
  · obtain ⟨as, rc⟩ := Dp.reads I _ (.ref l) u (.tup hl hv.dp) ry
    cases neg
    · exact PySem.SeqAt.in_tuple_data rc rd (ksD_plainAll ks) (ksD_plain k) room (by rw [ksD_any]; exact ⟨.bl _, H, I, rfl, q⟩)
    · exact PySem.SeqAt.notIn_tuple_data rc rd (ksD_plainAll ks) (ksD_plain k) room (by rw [ksD_any]; exact ⟨.bl _, H, I, rfl, q⟩)
  · obtain ⟨as, rc⟩ := Dp.reads I _ (.ref l) u (.lst hl hv.dp) ry
    cases neg
    · exact PySem.SeqAt.in_list_data rc rd (ksD_plainAll ks) (ksD_plain k) room (by rw [ksD_any]; exact ⟨.bl _, H, I, rfl, q⟩)
    · exact PySem.SeqAt.notIn_list_data rc rd (ksD_plainAll ks) (ksD_plain k) room (by rw [ksD_any]; exact ⟨.bl _, H, I, rfl, q⟩)
theorem inKy (K : PySem.W.Frag) (hu : X.A.units + 64 < cLine) (hK : X.K = K := by rfl) : OpR X (compareOp .In) (rInKy K false) := op_inKy K false hu hK
theorem notInKy (K : PySem.W.Frag) (hu : X.A.units + 64 < cLine) (hK : X.K = K := by rfl) : OpR X (compareOp .NotIn) (rInKy K true) := op_inKy K true hu hK
def rEqKy (K : PySem.W.Frag) : R2 := fun x y H Q => ∃ p q : List Key, KyAt K H x p ∧ KyAt K H y q ∧ Q (.bl (decide (p = q))) H
theorem eqKy (K : PySem.W.Frag) (hu : X.A.units + 64 < cLine) (hK : X.K = K := by rfl) : OpR X (compareOp .Eq) (rEqKy K) := by
  subst hK
  intro pins s σ H x y v u Q I rx ry h
  obtain ⟨p, q, hp, hq, k⟩ := h
  obtain ⟨as, ra⟩ := Dp.reads I _ x v hp.dp rx
  obtain ⟨bs, rb⟩ := Dp.reads I _ y u hq.dp ry
  have := ksD_depth p
  have := Nat.min_le_left (ksD p).depth (ksD q).depth
  exact PySem.SeqAt.eq_plain ra rb (ksD_plain p) (ksD_plain q) (by omega) (by rw [ksD_eqv]; exact ⟨.bl _, H, I, rfl, k⟩)
def rNeKy (K : PySem.W.Frag) : R2 := fun x y H Q => ∃ p q : List Key, KyAt K H x p ∧ KyAt K H y q ∧ Q (.bl (!decide (p = q))) H
theorem neKy (K : PySem.W.Frag) (hu : X.A.units + 64 < cLine) (hK : X.K = K := by rfl) : OpR X (compareOp .NotEq) (rNeKy K) := by
  subst hK
  intro pins s σ H x y v u Q I rx ry h
  obtain ⟨p, q, hp, hq, k⟩ := h
  obtain ⟨as, ra⟩ := Dp.reads I _ x v hp.dp rx
  obtain ⟨bs, rb⟩ := Dp.reads I _ y u hq.dp ry
  have := ksD_depth p
  have := Nat.min_le_left (ksD p).depth (ksD q).depth
  exact PySem.SeqAt.ne_plain ra rb (ksD_plain p) (ksD_plain q) (by omega) (by rw [ksD_eqv]; exact ⟨.bl _, H, I, rfl, k⟩)

/-! ### setdefault and del for dicts by rows -/
theorem kt_none {H : Hp} {kvs : List (List Key × V)} {xs : List (List Key × Addr × Value)} (rel : KT H kvs xs) {k : List Key} (h : atKey xs k = none) : valV kvs k = none := by
  have r := rel.val k
  rw [h] at r
  cases e : valV kvs k with
  | none => rfl
  | some v => rw [e] at r; exact (show False from r).elim
theorem kt_some {H : Hp} {kvs : List (List Key × V)} {xs : List (List Key × Addr × Value)} (rel : KT H kvs xs) {k : List Key} {p : Addr × Value} (h : atKey xs k = some p) : ∃ v, valV kvs k = some v ∧ RelV v p.2 := by
  have r := rel.val k
  rw [h] at r
  cases e : valV kvs k with
  | none => rw [e] at r; exact (show False from r).elim
  | some v => rw [e] at r; exact ⟨v, rfl, r⟩
def tDSetdT (td ty tx : TE) : TE := fun σ H Q => td σ H fun x H1 => ∃ a, x = .ref a ∧ IsD H1 a ∧ ty σ H1 fun y H2 => tx σ H2 fun z H3 => ∃ (kvs : List (List Key × V)) (k : List Key) (b : Addr), H3 a = some (.dT kvs) ∧ y = .ref b ∧ H3 b = some (.tup (k.map kV)) ∧ kvs.length < sizeLine ∧
  (∀ v, valV kvs k = some v → Q v H3) ∧ (valV kvs k = none → Q z (upd H3 a (.dT (putK kvs k z))))
theorem pe_dsetdT {o e f : Expr} {td ty tx : TE} {apos cpos : Pos} (hu : X.A.units + 64 < cLine) (ho : PE X o td) (he : PE X e ty) (hf : PE X f tx) (m : M2 X o "setdefault" apos e f cpos) : PE X (.Call (.Attribute o "setdefault" apos) [e, f] [] cpos) (tDSetdT td ty tx) := by
  refine ⟨fun pins s σ H Q I h => wpAny_Call_method m.base m.few m.line PySem.F.plainAttrs_dict PySem.F.slot_dict_setdefault PySem.F.type_dict_setdefault (thn (ho.run pins s σ H _ I h) fun u s1 ⟨x, H1, I1, rx, a, ex, d, q1⟩ => ?_)⟩
  subst ex
  obtain rfl : u = Value.ref a := rx
  obtain ⟨g1, g2, _⟩ := isD_at I1 d
  refine ⟨g1, g2, ?_⟩
  rw [m.trees]
  refine Calls.callWith_builtin rfl (Calls.evalArgs_plain (Calls.spliced_cons (thn (he.run pins s1 σ H1 _ I1 q1) fun ku s2 ⟨y, H2, I2, ry, q2⟩ => Calls.spliced_cons (thn (hf.run pins s2 σ H2 _ I2 q2) fun du s3 ⟨z, H3, I3, rz, kvs, k, b, ea, ey, eb, hl, q3, q4⟩ => Calls.spliced_nil ?_))))
  subst ey
  obtain rfl : ku = Value.ref b := ry
  obtain ⟨z0, hd, xs, rel, dd⟩ := dt_of I3.hok ea
  have hz : xs.length ≤ sizeLine := by rw [← Paired.length rel]; exact z0
  refine call_setdefault_heap (knd := tupleKind (mixKind X.prog X.w)) (k := k) (hsz := hz) (tupleKind_room_in1 (by omega)) (key_of I3.hok eb) hd dd (fun p hp => ?_) fun hn h' dd' hs => ?_
  · obtain ⟨v, ev, rv⟩ := kt_some rel hp
    exact ⟨v, H3, I3.tok _, rv, q3 v ev⟩
  · have ev := kt_none rel hn
    have hl2 : (putK kvs k z).length ≤ sizeLine := by
      have := length_putK kvs k z
      omega
    obtain ⟨q, es, ep, hq, h2, h3, h4, _, h5⟩ := dd'
    have keep : ∀ c ys, H3 c = some (.tup ys) → (upd H3 a (.dT (putK kvs k z))) c = some (.tup ys) := fun c ys ec => by
      rw [upd_ne (ne_of ec ea (fun z => nomatch z))]
      exact ec
    have nw : ObjOk X.prog X.w (upd H3 a (.dT (putK kvs k z))) h' a (.dT (putK kvs k z)) := ⟨hl2, hd, _, (rel.put k eb rz).keeps keep, q, es, ep, hq, h2, h3, h4, h5⟩
    exact ⟨z, _, d_write I3 (by rw [ea]; exact True.intro) hs ⟨q, hq⟩ nw, rz, q4 ev⟩
def sDDelT (td ty : TE) : TS := fun D σ H => td σ H fun x H1 => ty σ H1 fun y H2 => ∃ (a b : Addr) (kvs : List (List Key × V)) (k : List Key), x = .ref a ∧ y = .ref b ∧ H2 a = some (.dT kvs) ∧ H2 b = some (.tup (k.map kV)) ∧ (valV kvs k).isSome = true ∧ D.nx σ (upd H2 a (.dT (dropK kvs k)))
theorem ps_ddelT {o i : Expr} {td ty : TE} {tpos pos : Pos} (hu : X.A.units + 64 < cLine) (ho : PE X o td) (hi : PE X i ty) : PS X (.Delete [.Subscript o i tpos] pos) (sDDelT td ty) := by
  refine ⟨fun pins s σ H D I h => wpAny_Delete (wpAny_deleteEach_cons (wpAny_delete_Subscript (thn (ho.run pins s σ H _ I h) fun u s1 ⟨x, H1, I1, rx, q1⟩ => thn (hi.run pins s1 σ H1 _ I1 q1) fun iv s2 ⟨y, H2, I2, ry, a, b, kvs, k, ex, ey, ea, eb, l, q⟩ => ?_)))⟩
  subst ex
  subst ey
  obtain rfl : u = Value.ref a := rx
  obtain rfl : iv = Value.ref b := ry
  obtain ⟨z0, hd, xs, rel, dd⟩ := dt_of I2.hok ea
  have hz : xs.length ≤ sizeLine := by rw [← Paired.length rel]; exact z0
  obtain ⟨p, hp⟩ : ∃ p, atKey xs k = some p := by
    cases e : atKey xs k with
    | none => rw [kt_none rel e] at l; cases l
    | some p => exact ⟨p, rfl⟩
  refine wpAny_delItem_heap (knd := tupleKind (mixKind X.prog X.w)) (k := k) (hsz := hz) (tupleKind_room_in1 (by omega)) (key_of I2.hok eb) hd dd hp fun h' dd' hs => wpAny_deleteEach_nil ?_
  obtain ⟨r, es, ep, hr, h2, h3, h4, _, h5⟩ := dd'
  have keep : ∀ c ys, H2 c = some (.tup ys) → (upd H2 a (.dT (dropK kvs k))) c = some (.tup ys) := fun c ys ec => by
    rw [upd_ne (ne_of ec ea (fun z => nomatch z))]
    exact ec
  have nw : ObjOk X.prog X.w (upd H2 a (.dT (dropK kvs k))) h' a (.dT (dropK kvs k)) := ⟨Nat.le_trans (dropK_le kvs k) z0, hd, _, (DX.KT_drop k rel).keeps keep, r, es, ep, hr, h2, h3, h4, h5⟩
  exact ⟨σ, _, d_write I2 (by rw [ea]; exact True.intro) hs ⟨r, hr⟩ nw, q⟩
/-! ### sorted, the items being tuples of data -/
theorem each_vals {xs : List V} {us : List Value} (r : Vals xs us) : PySem.W.EachIs (fun (u : Value) (x : V) => RelV x u) us xs := by
  induction r with
  | nil => exact .nil
  | cons h _ ih => exact .cons h ih
theorem vals_each {xs : List V} {us : List Value} (r : PySem.W.EachIs (fun (u : Value) (x : V) => RelV x u) us xs) : Vals xs us := by
  induction r with
  | nil => exact .nil
  | cons h _ ih => exact .cons h ih
theorem each_dp {pins : List (Addr × Obj)} {σ : L2.St} {H : Hp} {s : Shared} {k : V → PyData} (I : Inv X pins σ H s) {xs : List V} {us : List Value} (r : Vals xs us) (h : ∀ x ∈ xs, Dp X.K H x (k x)) : PySem.W.EachIs (fun (u : Value) (x : V) => ∃ as, Reads s.heap u (k x) as) us xs := by
  induction r with
  | nil => exact .nil
  | cons e _ ih => exact .cons (Dp.reads I _ _ _ (h _ List.mem_cons_self) e) (ih fun x hx => h x (List.mem_cons_of_mem _ hx))
def rSortedD (K : PySem.W.Frag) : List V → Hp → VK → Prop := fun vs H Q => ∃ (a : Addr) (xs : List V) (k : V → PyData), vs = [.ref a] ∧ SqL K H a xs ∧ (∀ x ∈ xs, Dp K H x (k x) ∧ (∃ y r, k x = .tuple (y :: r)) ∧ (k x).depth ≤ 10) ∧ PySem.W.AllAlike (xs.map k) ∧
  ∀ p, H p = none → Q (.ref p) (upd H p (.lst (xs.mergeSort (PySem.W.dataLe false k))))
theorem cr_sortedD (K : PySem.W.Frag) (hu : X.A.units + 64 < cLine) (hK : X.K = K := by rfl) : CallR X (.builtin "sorted") (rSortedD K) := by
  subst hK
  intro pins s σ H vs us Q I r h
  obtain ⟨a, xs, k, rfl, hs, hx, al, q⟩ := h
  obtain ⟨its, rv, hl, hz⟩ := I.list hs
  obtain ⟨u, rfl, ru⟩ := vals1 r
  obtain rfl : u = Value.ref a := ru
  refine PySem.W.sorted_data (R := fun (u : Value) (x : V) => RelV x u) (bs := xs) (enc := k) hl.isList (each_vals rv) (each_dp I rv fun x m => (hx x m).1) al (.inl fun d hd => ?_) hz (fun x m => by have := (hx x m).2.2; omega) fun out lo eo => ?_
  · obtain ⟨x, m, rfl⟩ := List.mem_map.mp hd
    exact (hx x m).2.1
  · obtain ⟨c, hc⟩ := PyProof.Rows.sortedAll_at s.heap its out.toArray
    have lm : (xs.mergeSort (PySem.W.dataLe false k)).length = xs.length := List.length_mergeSort _
    have nw : ObjOk X.prog X.w (upd H (s.heap.objs.size + 1) (.lst (xs.mergeSort (PySem.W.dataLe false k)))) (sortedAll s.heap its out.toArray) (s.heap.objs.size + 1) (.lst (xs.mergeSort (PySem.W.dataLe false k))) := ⟨by rw [lm]; exact hz, out, c, vals_each eo, hc⟩
    exact ⟨.ref (s.heap.objs.size + 1), _, I.laid (t' := s.toks) (fun b o e => PyProof.Rows.sortedAll_old e) (Nat.le_succ _) nw, rfl, q _ (I.hok.fresh (Nat.le_succ _))⟩
/-! ### < and <= of data -/
def rLtD (K : PySem.W.Frag) : R2 := fun x y H Q => ∃ d e : PyData, Dp K H x d ∧ Dp K H y e ∧ PySem.W.alike d e = true ∧ d ≠ .none ∧ d.depth ≤ 10 ∧ Q (.bl (PySem.W.dataLt d e)) H
theorem ltD (K : PySem.W.Frag) (hu : X.A.units + 64 < cLine) (hK : X.K = K := by rfl) : OpR X (compareOp .Lt) (rLtD K) := by
  subst hK
  intro pins s σ H x y v u Q I rx ry h
  obtain ⟨d, e, hd, he, al, nn, dp, q⟩ := h
  obtain ⟨as, ra⟩ := Dp.reads I _ x v hd rx
  obtain ⟨bs, rb⟩ := Dp.reads I _ y u he ry
  have := Nat.min_le_left d.depth e.depth
  exact PySem.W.lt_data ra rb al nn (by omega) ⟨.bl _, H, I, rfl, q⟩
def rLeD (K : PySem.W.Frag) : R2 := fun x y H Q => ∃ d e : PyData, Dp K H x d ∧ Dp K H y e ∧ PySem.W.alike d e = true ∧ d ≠ .none ∧ d.depth ≤ 10 ∧ Q (.bl (!PySem.W.dataLt e d)) H
theorem leD (K : PySem.W.Frag) (hu : X.A.units + 64 < cLine) (hK : X.K = K := by rfl) : OpR X (compareOp .LtE) (rLeD K) := by
  subst hK
  intro pins s σ H x y v u Q I rx ry h
  obtain ⟨d, e, hd, he, al, nn, dp, q⟩ := h
  obtain ⟨as, ra⟩ := Dp.reads I _ x v hd rx
  obtain ⟨bs, rb⟩ := Dp.reads I _ y u he ry
  have := Nat.min_le_left d.depth e.depth
  exact PySem.W.le_data ra rb al nn (by omega) ⟨.bl _, H, I, rfl, q⟩
end
/-! ### a method with a star parameter: L2.pe_methR of HandS.More -/
structure CalMV (P : Program) (w : World) (K : PySem.W.Frag) (mg : Str → Option Value) (base : Heap) (CX : CXT) (k : Nat) (C : Addr) (m : Str) (f : Addr) (n : Nat) (sp : Sp) : Prop where
  G : FnR P w K mg base CX k f (spV n sp)
  cl : Cls K C
  me : Meth K C m f
end El

set_option Elab.async false
set_option linter.all false
set_option maxRecDepth 100000
set_option maxHeartbeats 4000000
/-! Own words: the head of a large law. The top is run by the kernel and looked at with a view that holds the law alone, all other names being loose: what the walk leans on is told by the objects of K, off the tree. Two runs (looks, objects); once for each answer of one row of the world. -/
namespace El
open PySem PySem.W PySem.Calls PyProof.Rows HeadRun
noncomputable abbrev topQ (p : Program) (M : Nat) (w : World) (os : OsState) : Option SharedT := endF (stepQ (denQ tabQ) p w) M p w os
abbrev topX (q : Program) (r : OpenRow) (s : Shared) : Bool := xlAt q [] s && recOk r.toRowW.records s
/-- the looks behind the top, at a world -/
def TopLooks (r : OpenRow) (q : Program) (loose : List PySem.Str) (M : Nat) (w : World) : Prop :=
  ∀ os : OsState, (topQ r.prog M w os).map (fun s => (looksF r.prog (boot_heap w.params) s.abs, seenQ q loose (importedModules r.prog.main.body) (topX q r) s.abs)) = some (true, openGood q loose)
/-- the objects behind the top, at a world -/
def TopObjs (r : OpenRow) (K : Params → Frag) (as : List Addr) (M : Nat) (w : World) : Prop :=
  ∀ os : OsState, (topQ r.prog M w os).map (fun s => as.map (getT s)) = some ((K w.params).map fun x => some x.2)
theorem top_flat {α β γ δ : Type} {o : Option α} {f : α → β} {g : α → γ} {h : α → δ} {b : β} {c : γ} {d : δ} (h1 : o.map (fun s => (f s, g s)) = some (b, c)) (h2 : o.map h = some d) : o.map (fun s => (f s, g s, h s)) = some (b, c, d) := by
  cases o with
  | none => cases h1
  | some a => cases h1; cases h2; rfl
theorem head_tiny {r : OpenRow} {q : Program} {loose : List PySem.Str} {K : Params → Frag} {as : List Addr} {ek : ∀ P, as = (K P).map (·.1)} {d : DefRec} {kwd : List (PySem.Str × PySem.Expr)} (M : Nat)
    (A : ∀ w, TopLooks r q loose M w) (C : ∀ w, TopObjs r K as M w) (e : opening r.prog = plainProg r.prog.main.scope.names) (f : ∀ s, fenceModules? r.prog s = some s)
    (hdef : defOf q r.name = some (d, kwd)) (hp : r.prog.theDef r.name = some (d.params, d.body, d.scope)) (hk : kwWritten? d.params.kwonlyargs d.params.kw_defaults = some kwd)
    (hwr : (!r.writes || r.records.isEmpty) = true) (k1 : r.wellSaid = true) (ok : (chainsOk q && opensWell r.prog && (frees r.toRowW && r.within.isEmpty)) = true) (hb : r.prog.bare) (hw : r.toRowW.promised)
    (call : WalkO q loose (XL q []) (Hook.says (kHook K as ek)) r.toRowW d kwd fun f vs => PySem.call f vs) : r.Holds := by
  have left : LeftO r.prog q loose (topX q r) (Hook.obs (kHook K as ek)) (Hook.val (kHook K as ek)) (M + 600) true :=
    left_oneK (M := M) e (Nat.ble_eq_true_of_le (by omega)) f (Nat.ble_eq_true_of_le (by omega)) fun w os => top_flat (A w os) (C w os)
  exact holds_open (r := r) (q := q) (loose := loose) (XP := XL q []) (YP := Hook.says (kHook K as ek)) (d := d) (kwd := kwd) left (Hook.of _) (Hook.keeps _) (fun s z => xl_of s (Bool.and_eq_true_iff.mp z).1) XL.keeps hdef hp hk (fun s z => recFacts_of (Bool.and_eq_true_iff.mp z).2) hwr k1 ok hb hw call
end El
namespace El
open PySem PySem.W
/-- the places of a fragment, told by a walk that needs no depth -/
noncomputable def placesAre : List Nat → Frag → Bool := List.rec (motive := fun _ => Frag → Bool) (fun l => List.rec (motive := fun _ => Bool) true (fun _ _ _ => false) l)
  (fun a _ ih l => List.rec (motive := fun _ => Bool) false (fun p r _ => Bool.rec (motive := fun _ => Bool) false (ih r) (Nat.beq a p.1)) l)
theorem places_ok : ∀ (as : List Nat) (K : Frag), placesAre as K = true → as = K.map (·.1)
  | [], [], _ => rfl
  | [], _ :: _, h => nomatch (show false = true from h)
  | _ :: _, [], h => nomatch (show false = true from h)
  | a :: as, p :: K, h => by
    have h1 : Bool.rec (motive := fun _ => Bool) false (placesAre as K) (Nat.beq a p.1) = true := h
    cases e : Nat.beq a p.1 with
    | false =>
      rw [e] at h1
      cases h1
    | true =>
      rw [e] at h1
      rw [List.map_cons, ← places_ok as K h1, Nat.eq_of_beq_eq_true e]
end El

set_option Elab.async false
set_option linter.all false
set_option maxRecDepth 100000
set_option maxHeartbeats 4000000
namespace K34
open PySem PySem.Spec PyProof.Rows L2 El NdefX
def topS (i : Nat) : Stmt := PySem.Challenge.pw_elseput_k34_whole_lock_table_excludes.main.body.getD i (.Pass ⟨0, 0, 0, 0⟩)
abbrev s__law_state : Stmt := topS 3
theorem sc__law_state : FnScope ["_law_script"] ["_law_script"] (defScope s__law_state) := ⟨rfl, rfl, rfl, by decide +kernel, rfl, by decide +kernel, by decide +kernel⟩

abbrev s__law_draw : Stmt := topS 4
theorem sc__law_draw : FnScope ["_law_state_here", "_law_many", "_law_first", "_law_second", "_law_third", "_law_digit"] ["_law_state_here", "_law_many"] (defScope s__law_draw) := ⟨rfl, rfl, rfl, by decide +kernel, rfl, by decide +kernel, by decide +kernel⟩

abbrev s__law_pick : Stmt := topS 5
theorem sc__law_pick : FnScope ["_law_state_here", "_law_row"] ["_law_state_here", "_law_row"] (defScope s__law_pick) := ⟨rfl, rfl, rfl, by decide +kernel, rfl, by decide +kernel, by decide +kernel⟩

abbrev s__law_mixed : Stmt := topS 6
theorem sc__law_mixed : FnScope ["_law_state_here", "_law_row", "_law_rest", "_law_result", "_law_k", "_law_at"] ["_law_state_here", "_law_row"] (defScope s__law_mixed) := ⟨rfl, rfl, rfl, by decide +kernel, rfl, by decide +kernel, by decide +kernel⟩

abbrev s__law_number : Stmt := topS 7
theorem sc__law_number : FnScope ["_law_state_here", "_law_kind"] ["_law_state_here"] (defScope s__law_number) := ⟨rfl, rfl, rfl, by decide +kernel, rfl, by decide +kernel, by decide +kernel⟩

abbrev s__law_constant : Stmt := topS 8
theorem sc__law_constant : FnScope ["_law_state_here"] ["_law_state_here"] (defScope s__law_constant) := ⟨rfl, rfl, rfl, by decide +kernel, rfl, by decide +kernel, by decide +kernel⟩

abbrev s__law_values : Stmt := topS 9
theorem sc__law_values : FnScope ["_law_state_here", "_law_start", "_law_step"] ["_law_state_here"] (defScope s__law_values) := ⟨rfl, rfl, rfl, by decide +kernel, rfl, by decide +kernel, by decide +kernel⟩

abbrev s__law_names : Stmt := topS 10
theorem sc__law_names : FnScope ["_law_state_here", "_law_many", "_law_letters", "_law_style", "_law_shift", "_law_code", "_law_spot", "_law_base", "_law_k", "_law_reserved", "_law_result", "_law_word"] ["_law_state_here", "_law_many"] (defScope s__law_names) := ⟨rfl, rfl, rfl, by decide +kernel, rfl, by decide +kernel, by decide +kernel⟩

abbrev s__law_is_int : Stmt := topS 11
theorem sc__law_is_int : FnScope ["_law_thing"] ["_law_thing"] (defScope s__law_is_int) := ⟨rfl, rfl, rfl, by decide +kernel, rfl, by decide +kernel, by decide +kernel⟩

abbrev s__law_same : Stmt := topS 12
theorem sc__law_same : FnScope ["_law_actual", "_law_due", "_law_k", "_law_key"] ["_law_actual", "_law_due"] (defScope s__law_same) := ⟨rfl, rfl, rfl, by decide +kernel, rfl, by decide +kernel, by decide +kernel⟩

abbrev s__law_some : Stmt := topS 13
theorem sc__law_some : FnScope ["_law_state_here", "_law_row", "_law_share", "_law_item"] ["_law_state_here", "_law_row", "_law_share"] (defScope s__law_some) := ⟨rfl, rfl, rfl, by decide +kernel, rfl, by decide +kernel, by decide +kernel⟩

abbrev s__law_one_place : Stmt := topS 14
theorem sc__law_one_place : FnScope ["_law_row", "_law_writers", "_law_k"] ["_law_row", "_law_writers"] (defScope s__law_one_place) := ⟨rfl, rfl, rfl, by decide +kernel, rfl, by decide +kernel, by decide +kernel⟩

abbrev s__law_seen : Stmt := topS 15
theorem sc__law_seen : FnScope ["_law_desk", "_law_places", "_law_writers", "_law_rows", "_law_helds", "_law_writer", "_law_held", "_law_due", "_law_place", "_law_k", "_law_row", "_law_pair"] ["_law_desk", "_law_places", "_law_writers"] (defScope s__law_seen) := ⟨rfl, rfl, rfl, by decide +kernel, rfl, by decide +kernel, by decide +kernel⟩

abbrev s__law_blockers_right : Stmt := topS 16
theorem sc__law_blockers_right : FnScope ["_law_desk", "_law_rows", "_law_places", "_law_writers", "_law_k", "_law_writer", "_law_others", "_law_due", "_law_pair"] ["_law_desk", "_law_rows", "_law_places", "_law_writers"] (defScope s__law_blockers_right) := ⟨rfl, rfl, rfl, by decide +kernel, rfl, by decide +kernel, by decide +kernel⟩

abbrev s__law_taken : Stmt := topS 17
theorem sc__law_taken : FnScope ["_law_row", "_law_writer", "_law_mode", "_law_result", "_law_pair"] ["_law_row", "_law_writer", "_law_mode"] (defScope s__law_taken) := ⟨rfl, rfl, rfl, by decide +kernel, rfl, by decide +kernel, by decide +kernel⟩

abbrev s__law_free_told : Stmt := topS 18
theorem sc__law_free_told : FnScope ["_law_desk", "_law_writer", "_law_but"] ["_law_desk", "_law_writer", "_law_but"] (defScope s__law_free_told) := ⟨rfl, rfl, rfl, by decide +kernel, rfl, by decide +kernel, by decide +kernel⟩

abbrev s__law_step_right : Stmt := topS 19
theorem sc__law_step_right : FnScope ["_law_state_here", "_law_desk", "_law_before", "_law_places", "_law_writers", "_law_rows", "_law_helds", "_law_kind", "_law_at", "_law_w", "_law_place", "_law_writer", "_law_there", "_law_after", "_law_mode", "_law_stops", "_law_told", "_law_but", "_law_k", "_law_pair", "_law_one"] ["_law_state_here", "_law_desk", "_law_before", "_law_places", "_law_writers"] (defScope s__law_step_right) := ⟨rfl, rfl, rfl, by decide +kernel, rfl, by decide +kernel, by decide +kernel⟩

abbrev s_law : Stmt := topS 20
theorem sc_law : FnScope ["_law_script", "_law_state_here", "_law_names_here", "_law_values_here", "_law_places", "_law_writers", "_law_desk", "_law_before", "_law_k"] ["_law_script"] (defScope s_law) := ⟨rfl, rfl, rfl, by decide +kernel, rfl, by decide +kernel, by decide +kernel⟩

abbrev s_LockTable___init__ : Stmt := mthS (topS 1) 0
theorem sc_LockTable___init__ : FnScope ["self"] ["self"] (defScope s_LockTable___init__) := ⟨rfl, rfl, rfl, by decide +kernel, rfl, by decide +kernel, by decide +kernel⟩

abbrev s_LockTable_blockers : Stmt := mthS (topS 1) 1
theorem sc_LockTable_blockers : FnScope ["self", "place", "writer", "mode", "others", "pair", "other", "other_mode"] ["self", "place", "writer", "mode"] (defScope s_LockTable_blockers) := ⟨rfl, rfl, rfl, by decide +kernel, rfl, by decide +kernel, by decide +kernel⟩

abbrev s_LockTable_take : Stmt := mthS (topS 1) 2
theorem sc_LockTable_take : FnScope ["self", "place", "writer", "mode", "modes", "places"] ["self", "place", "writer", "mode"] (defScope s_LockTable_take) := ⟨rfl, rfl, rfl, by decide +kernel, rfl, by decide +kernel, by decide +kernel⟩

abbrev s_LockTable_free : Stmt := mthS (topS 1) 3
theorem sc_LockTable_free : FnScope ["self", "place", "writer"] ["self", "place", "writer"] (defScope s_LockTable_free) := ⟨rfl, rfl, rfl, by decide +kernel, rfl, by decide +kernel, by decide +kernel⟩

abbrev s_LockTable_free_all : Stmt := mthS (topS 1) 4
theorem sc_LockTable_free_all : FnScope ["self", "writer", "kept", "freed", "place"] ["self", "writer", "kept"] (defScope s_LockTable_free_all) := ⟨rfl, rfl, rfl, by decide +kernel, rfl, by decide +kernel, by decide +kernel⟩

abbrev s_LockTable_holders : Stmt := mthS (topS 1) 5
theorem sc_LockTable_holders : FnScope ["self", "place"] ["self", "place"] (defScope s_LockTable_holders) := ⟨rfl, rfl, rfl, by decide +kernel, rfl, by decide +kernel, by decide +kernel⟩

abbrev s_LockTable_held : Stmt := mthS (topS 1) 6
theorem sc_LockTable_held : FnScope ["self", "writer"] ["self", "writer"] (defScope s_LockTable_held) := ⟨rfl, rfl, rfl, by decide +kernel, rfl, by decide +kernel, by decide +kernel⟩

section
variable {P : Program} {w : World} {K : PySem.W.Frag} {mg : Str → Option Value} {base : Heap}
variable {a_LockTable : Addr}
structure Gs (K : PySem.W.Frag) (mg : Str → Option Value) (a_LockTable : Addr) : Prop where
  z_bool : mg "bool" = none
  z_dict : mg "dict" = none
  z_int : mg "int" = none
  z_isinstance : mg "isinstance" = none
  z_len : mg "len" = none
  z_list : mg "list" = none
  z_range : mg "range" = none
  z_sorted : mg "sorted" = none
  z_str : mg "str" = none
  z_tuple : mg "tuple" = none
  g_LockTable : mg "LockTable" = some (.ref a_LockTable)
  n_LockTable : PySem.W.nsIn K mainGlobals "LockTable" = some (some (.ref a_LockTable))
  cl_LockTable : Cls K a_LockTable
  na_LockTable__modes : NoAttr K a_LockTable "_modes"
  na_LockTable__places : NoAttr K a_LockTable "_places"
  rd_LockTable : ClX.CRead K a_LockTable (.type "type")
/-! ### the script's state -/
def stv (scr : Addr) (i v m c : Int) : List V := [.ref scr, .int i, .int v, .int m, .int c]
def DrAt (H : Hp) (st scr : Addr) : Prop := ∃ (ns : List Int) (i v m c : Int), H st = some (.lst (stv scr i v m c)) ∧ H scr = some (.lst (ns.map V.int)) ∧ ns.length ≤ 63 ∧ 0 ≤ i
theorem DrAt.ne {H : Hp} {st scr : Addr} {ns : List Int} {i v m c : Int} (h : H st = some (.lst (stv scr i v m c))) (h2 : H scr = some (.lst (ns.map V.int))) : scr ≠ st := by
  refine ne_of h2 h fun e => ?_
  injection e with e
  cases ns with
  | nil => simp [stv] at e
  | cons a r => simp [stv] at e
theorem DrAt.upd {H : Hp} {st scr : Addr} {ns : List Int} {i v m c i' v' m' c' : Int} (h : H st = some (.lst (stv scr i v m c))) (h2 : H scr = some (.lst (ns.map V.int))) (hl : ns.length ≤ 63) (h0 : 0 ≤ i') : DrAt (upd H st (.lst (stv scr i' v' m' c'))) st scr :=
  ⟨ns, i', v', m', c', upd_same, by rw [upd_ne (DrAt.ne h h2)]; exact h2, hl, h0⟩
theorem upd_id {H : Hp} {a : Addr} {o : HO} (h : H a = some o) : upd H a o = H := by
  funext b
  unfold L2.upd
  split
  · rename_i e; rw [e, h]
  · rfl
theorem DrAt.lst {H : Hp} {st scr : Addr} (h : DrAt H st scr) : ∃ l, H st = some (.lst l) := by
  obtain ⟨ns, i, v, m, c, h, _⟩ := h
  exact ⟨_, h⟩
theorem DrAt.new {H H' : Hp} {st scr : Addr} (h : DrAt H st scr) (s : Same H H') : DrAt H' st scr := by
  obtain ⟨ns, i, v, m, c, h1, h2, h3⟩ := h
  exact ⟨ns, i, v, m, c, s _ _ h1, s _ _ h2, h3⟩
theorem DrAt.at {H : Hp} {st scr p : Addr} {o : HO} (h : DrAt H st scr) (h1 : p ≠ st) (h2 : p ≠ scr) : DrAt (L2.upd H p o) st scr := by
  obtain ⟨ns, i, v, m, c, e1, e2, h3⟩ := h
  exact ⟨ns, i, v, m, c, by rw [upd_ne h1.symm]; exact e1, by rw [upd_ne h2.symm]; exact e2, h3⟩
theorem same_new {H : Hp} {p : Addr} {o : HO} (h : H p = none) : Same H (upd H p o) := fun b u q => by rw [upd_ne (ne_of_none q h)]; exact q
theorem free_new {H : Hp} {p q : Addr} {o : HO} (h : upd H p o q = none) : H q = none := by
  unfold L2.upd at h
  split at h
  · cases h
  · exact h
theorem new_ne {H : Hp} {p q : Addr} {o : HO} (h : upd H p o q = none) : q ≠ p := fun e => by rw [e, upd_same] at h; cases h
theorem len_add (a b : Str) : (a ++ b).length = a.length + b.length := by
  show (a.cps ++ b.cps).size = _
  rw [Array.size_append]
  rfl
theorem cps_add (a b : Str) : (a ++ b).cps.toList = a.cps.toList ++ b.cps.toList := by
  show (a.cps ++ b.cps).toList = _
  rw [Array.toList_append]
theorem len_cps (z : Str) : z.cps.toList.length = z.length := Array.length_toList
theorem line_of {n : Nat} (h : n ≤ 100000) : n ≤ sizeLine := Nat.le_trans h (by decide)
theorem line_lt {n : Nat} (h : n < 100000) : n < sizeLine := Nat.lt_of_lt_of_le h (by decide)
/-- all that stood stands, st's own numbers aside -/
def Bt (st : Addr) (H H' : Hp) : Prop := ∀ b o, b ≠ st → H b = some o → H' b = some o
theorem Bt.refl (st : Addr) (H : Hp) : Bt st H H := fun _ _ _ h => h
theorem Bt.trans {st : Addr} {H H1 H2 : Hp} (a : Bt st H H1) (b : Bt st H1 H2) : Bt st H H2 := fun c o n h => b c o n (a c o n h)
theorem Bt.same {st : Addr} {H H' : Hp} (s : Same H H') : Bt st H H' := fun b o _ h => s b o h
theorem Bt.st {st : Addr} {H : Hp} {o : HO} : Bt st H (upd H st o) := fun b u n h => by rw [upd_ne n]; exact h
theorem Bt.free {st : Addr} {H H' : Hp} (s : Bt st H H') {l : Addr} (n : l ≠ st) (h : H' l = none) : H l = none := by
  cases q : H l with
  | none => rfl
  | some o => rw [s l o n q] at h; cases h
theorem DrAt.ne_new {H : Hp} {st scr p : Addr} (h : DrAt H st scr) (n : H p = none) : p ≠ st := by
  obtain ⟨l, e⟩ := h.lst
  exact (ne_of_none e n).symm

theorem DrAt.ne_scr {H : Hp} {st scr p : Addr} (h : DrAt H st scr) (n : H p = none) : p ≠ scr := by
  obtain ⟨ns, i, v, m, c, e1, e2, h3⟩ := h
  exact (ne_of_none e2 n).symm

end
section
variable {P : Program} {w : World} {K : PySem.W.Frag} {mg : Str → Option Value} {base : Heap}
variable {a_LockTable : Addr}
theorem inV_str {z : Str} : ∀ {xs : List Str}, inV (.str z) (xs.map V.str) = decide (z ∈ xs)
  | [] => rfl
  | a :: r => by
    have ih := inV_str (z := z) (xs := r)
    unfold inV at ih ⊢
    rw [List.map_cons, List.any_cons, ih]
    have : eqV (.str a) (.str z) = decide (z = a) := by
      show (a == z) = _
      rw [Bool.eq_iff_iff, beq_iff_eq, decide_eq_true_iff, eq_comm]
    rw [this, Bool.eq_iff_iff, Bool.or_eq_true, decide_eq_true_iff, decide_eq_true_iff, decide_eq_true_iff, List.mem_cons]
theorem flat_strs {xs : List Str} : (xs.map V.str).all flatV = true := by
  rw [List.all_map]
  exact List.all_eq_true.mpr fun _ _ => rfl
def sp__law_draw (K : PySem.W.Frag) : Sp := fun vs H Q _ => ∃ (st scr : Addr) (many : Int), vs = [.ref st, .int many] ∧ DrAt H st scr ∧ 0 < many ∧ many.natAbs < 2 ^ 200 ∧
  ∀ (r : Int) (l : List V), 0 ≤ r → r < many → DrAt (upd H st (.lst l)) st scr → Q (.int r) (upd H st (.lst l))
theorem len__law_draw {vs : List V} {H : Hp} {Q : VK} {E : XK} (h : sp__law_draw K vs H Q E) : vs.length = 2 := by
  obtain ⟨_, _, _, rfl, _⟩ := h
  rfl
theorem ok__law_draw {f : Addr} {fd : FuncData} (F : Fun K "_law_draw" "_law_draw" s__law_draw f fd) (T : Gs K mg a_LockTable) : FnOk P w K mg base CX0 1 f fd ["_law_state_here", "_law_many"] (sp__law_draw K) := by
  refine F.ok sc__law_draw (fun vs H Q E h => len__law_draw h) (fun cdv A outer s H vs Q E hr h => ?_)
  obtain ⟨st, scr, many, rfl, ⟨ns, i, v, m, c, hst, hscr, hl, h0⟩, hm0, hm1, q⟩ := h
  have hne := DrAt.ne hst hscr
  refine ⟨_, (Evl.pss_cut (ps_if (pt_c (eqK K hr.units) (e_x K (v_ 0) pe_int) pe_int) (pss_cons (ps_if (pt_c op_geM (e_x K (v_ 0) pe_int) (pe_callB (lenK K) (by rfl) T.z_len PySem.boot_len (pa_cons (e_x K (v_ 0) pe_int) pa_nil))) (pss_one (ps_ret pe_int)) pss_nil) (pss_cons (ps_asg (pe_callTy call_intM (by rfl) T.z_int (by decide +kernel) (pa_cons (e_x K (e_x K (v_ 0) pe_int) (e_x K (v_ 0) pe_int)) pa_nil)) (pg_sub (v_ 0) pe_int set_list)) (pss_cons (ps_asg (pe_op (addK K) (e_x K (v_ 0) pe_int) pe_int) (pg_sub (v_ 0) pe_int set_list)) (pss_cons (ps_asg pe_int (pg_sub (v_ 0) pe_int set_list)) (pss_cons (ps_asg pe_int (pg_sub (v_ 0) pe_int set_list)) (pss_one (ps_if (pt_c op_ltM (e_x K (v_ 0) pe_int) (pe_op op_powM pe_int pe_int)) (pss_one (ps_asg pe_int (pg_sub (v_ 0) pe_int set_list))) pss_nil))))))) pss_nil) (pss_cons (ps_asg (pe_op (addK K) (e_x K (v_ 0) pe_int) pe_int) (pg_sub (v_ 0) pe_int set_list)) (pss_cons (ps_if (pt_c (eqK K hr.units) (e_x K (v_ 0) pe_int) pe_int) (pss_cons (ps_set (i := 5) sc__law_draw.nd rfl (.inl rfl) (pe_op op_modM (pe_callTy call_intM (by rfl) T.z_int (by decide +kernel) (pa_cons (e_x K (v_ 0) pe_int) pa_nil)) (v_ 1))) (pss_cons (ps_asg (pe_op op_divM (pe_callTy call_intM (by rfl) T.z_int (by decide +kernel) (pa_cons (e_x K (v_ 0) pe_int) pa_nil)) (v_ 1)) (pg_sub (v_ 0) pe_int set_list)) (Evl.pss_cut (ps_if (PW.pt (pw_or (pt_c (eqK K hr.units) (e_x K (v_ 0) pe_int) pe_int) (pw_or1 (pt_c op_geM (e_x K (v_ 0) pe_int) pe_int)))) (pss_one (ps_asg pe_int (pg_sub (v_ 0) pe_int set_list))) pss_nil) (pss_one (ps_ret (v_ 5)))))) pss_nil) (pss_cons (ps_set (i := 2) sc__law_draw.nd rfl (.inl rfl) (pe_op op_modM (pe_callTy call_intM (by rfl) T.z_int (by decide +kernel) (pa_cons (pe_op (addK K) (pe_op op_mulSM (e_x K (v_ 0) pe_int) pe_int) (pe_op op_mulSM (e_x K (v_ 0) pe_int) pe_int)) pa_nil)) pe_int)) (pss_cons (ps_set (i := 3) sc__law_draw.nd rfl (.inl rfl) (pe_op op_modM (pe_callTy call_intM (by rfl) T.z_int (by decide +kernel) (pa_cons (pe_op (addK K) (pe_op (addK K) (pe_op op_mulSM (v_ 2) (v_ 2)) (pe_op op_mulSM (e_x K (v_ 0) pe_int) pe_int)) pe_int) pa_nil)) pe_int)) (Evl.pss_cut (ps_if (pt_c op_geM (e_x K (v_ 0) pe_int) pe_int) (pss_one (ps_asg pe_int (pg_sub (v_ 0) pe_int set_list))) pss_nil) (pss_cons (ps_set (i := 4) sc__law_draw.nd rfl (.inl rfl) (pe_op op_modM (pe_callTy call_intM (by rfl) T.z_int (by decide +kernel) (pa_cons (pe_op (addK K) (pe_op op_mulSM (v_ 3) pe_int) (v_ 2)) pa_nil)) pe_int)) (pss_one (ps_ret (pe_op op_modM (pe_callTy call_intM (by rfl) T.z_int (by decide +kernel) (pa_cons (v_ 4) pa_nil)) (v_ 1))))))))))), ?_⟩
  refine ⟨fun σ' H' => σ' = [some (.ref st), some (.int many), none, none, none, none] ∧ ∃ i v m c, H' = upd H st (.lst (stv scr i v m c)) ∧ 0 ≤ i, ?_, ?_⟩
  · refine ⟨_, .inl (SqL.of hst), _, rfl, ?_⟩
    refine ite2 (fun e => ?_) (fun e => ?_)
    · refine ⟨_, .inl (SqL.of hst), _, rfl, _, .inl (SqL.of hst), _, rfl, .inl ⟨_, .inl (SqL.of hscr), ?_⟩⟩
      refine ite2 (fun e1 => ?_) (fun e1 => ?_)
      · have z := q 0 (stv scr i v m c) (by omega) hm0 (DrAt.upd hst hscr hl h0)
        rw [upd_id hst] at z
        exact z
      · have e2 := of_decide_eq_false (Bool.eq_false_iff.mpr e1)
        rw [List.length_map] at e2
        obtain ⟨z, hz⟩ : ∃ z, atI (ns.map V.int) i = some (.int z) := by
          have hi : i.toNat < ns.length := by omega
          refine ⟨ns[i.toNat], ?_⟩
          have hq : atI (ns.map V.int) ((i.toNat : Nat) : Int) = some (.int ns[i.toNat]) := atI_nat (by rw [List.getElem?_map, List.getElem?_eq_getElem hi]; rfl)
          rwa [show ((i.toNat : Nat) : Int) = i by omega] at hq
        refine ⟨_, .inl (SqL.of hst), _, rfl, _, .inl (SqL.of hst), _, rfl, _, .inl (SqL.of hscr), _, hz, ?_⟩
        refine ⟨_, _, _, 2, rfl, rfl, hst, rfl, ?_⟩
        refine ⟨_, .inl (SqL.of upd_same), _, rfl, ?_⟩
        refine ⟨_, _, _, 1, rfl, rfl, upd_same, rfl, ?_⟩
        refine ⟨_, _, _, 3, rfl, rfl, upd_same, rfl, ?_⟩
        refine ⟨_, _, _, 4, rfl, rfl, upd_same, rfl, ?_⟩
        refine ⟨_, .inl (SqL.of upd_same), _, rfl, (by unfold CPow; decide), ?_⟩
        refine ite2 (fun e3 => ?_) (fun e3 => ?_)
        · refine ⟨_, _, _, 3, rfl, rfl, upd_same, rfl, rfl, i + 1, z, 2, 0, ?_, by omega⟩
          rw [upd_upd, upd_upd, upd_upd, upd_upd]
          rfl
        · refine ⟨rfl, i + 1, z, 1, 0, ?_, by omega⟩
          rw [upd_upd, upd_upd, upd_upd]
          rfl
    · exact ⟨rfl, i, v, m, c, (upd_id hst).symm, h0⟩
  · rintro σ' H' ⟨rfl, i, v, m, c, rfl, h0⟩
    have hscr' : ∀ o, upd H st o scr = some (.lst (ns.map V.int)) := fun o => by rw [upd_ne hne]; exact hscr
    refine ⟨_, .inl (SqL.of upd_same), _, rfl, ?_⟩
    refine ⟨_, _, _, 4, rfl, rfl, upd_same, rfl, ?_⟩
    rw [upd_upd]
    refine ⟨_, .inl (SqL.of upd_same), _, rfl, ?_⟩
    refine ite2 (fun e => ?_) (fun e => ?_)
    · refine ⟨_, .inl (SqL.of upd_same), _, rfl, hm0, ?_⟩
      refine ⟨_, .inl (SqL.of upd_same), _, rfl, .inr (wide_div hm0 (b := 200) hm1 (by decide) (by decide)), ?_⟩
      refine ⟨_, _, _, 2, rfl, rfl, upd_same, rfl, ?_⟩
      rw [upd_upd]
      have fin : ∀ m' : Int, Q (.int (v % many)) (upd H st (.lst (stv scr i (v / many) m' (c + 1)))) := fun m' => q _ _ (Int.emod_nonneg _ (by omega)) (Int.emod_lt_of_pos _ hm0) (DrAt.upd hst hscr hl h0)
      refine ⟨fun σ' H' => σ' = [some (.ref st), some (.int many), none, none, none, some (.int (v % many))] ∧ ∃ m', H' = upd H st (.lst (stv scr i (v / many) m' (c + 1))), ?_, ?_⟩
      · refine ⟨_, .inl (SqL.of upd_same), _, rfl, ?_⟩
        refine ite2 (fun e1 => ?_) (fun e1 => ?_)
        · refine ⟨_, _, _, 3, rfl, rfl, upd_same, rfl, rfl, 0, ?_⟩
          rw [upd_upd]
          rfl
        · refine ⟨_, .inl (SqL.of upd_same), _, rfl, ?_⟩
          refine ite2 (fun e1 => ?_) (fun e1 => ?_)
          · refine ⟨_, _, _, 3, rfl, rfl, upd_same, rfl, rfl, 0, ?_⟩
            rw [upd_upd]
            rfl
          · exact ⟨rfl, m, rfl⟩
      · rintro σ' H' ⟨rfl, m', rfl⟩
        exact fin m'
    · refine ⟨_, .inl (SqL.of upd_same), _, rfl, .inl (.inr ⟨by decide, by decide⟩), ?_⟩
      refine ⟨_, .inl (SqL.of upd_same), _, rfl, .inl (.inr ⟨by decide, by decide⟩), (by decide), ?_⟩
      have f0 := Int.emod_nonneg (v * 48271 + (c + 1) * 69621) (by decide : (2147483647 : Int) ≠ 0)
      have f1 := Int.emod_lt_of_pos (v * 48271 + (c + 1) * 69621) (by decide : (0 : Int) < 2147483647)
      refine ⟨.inl (.inl ⟨by omega, by omega⟩), ?_⟩
      refine ⟨_, .inl (SqL.of upd_same), _, rfl, .inl (.inr ⟨by decide, by decide⟩), (by decide), ?_⟩
      have fin : ∀ (m' x : Int), Q (.int (x % many)) (upd H st (.lst (stv scr i v m' (c + 1)))) := fun m' x => q _ _ (Int.emod_nonneg _ (by omega)) (Int.emod_lt_of_pos _ hm0) (DrAt.upd hst hscr hl h0)
      refine ⟨fun σ' H' => (∃ a b, σ' = [some (.ref st), some (.int many), some (.int a), some (.int b), none, none]) ∧ ∃ m', H' = upd H st (.lst (stv scr i v m' (c + 1))), ?_, ?_⟩
      · refine ⟨_, .inl (SqL.of upd_same), _, rfl, ?_⟩
        refine ite2 (fun e1 => ?_) (fun e1 => ?_)
        · refine ⟨_, _, _, 3, rfl, rfl, upd_same, rfl, ⟨_, _, rfl⟩, 0, ?_⟩
          rw [upd_upd]
          rfl
        · exact ⟨⟨_, _, rfl⟩, m, rfl⟩
      · rintro σ' H' ⟨⟨a, b, rfl⟩, m', rfl⟩
        refine ⟨.inl (.inr ⟨by decide, by decide⟩), (by decide), hm0, ?_⟩
        exact fin m' _

/-! ### _law_state -/
def sp__law_state (K : PySem.W.Frag) : Sp := fun vs H Q _ => ∃ (a : Addr) (ns : List Int), vs = [.ref a] ∧ SqL K H a (ns.map V.int) ∧ ns.length ≤ 63 ∧
  ∀ (H' : Hp) (st scr : Addr), Same H H' → H st = none → H scr = none → DrAt H' st scr → Q (.ref st) H'
theorem len__law_state {vs : List V} {H : Hp} {Q : VK} {E : XK} (h : sp__law_state K vs H Q E) : vs.length = 1 := by
  obtain ⟨_, _, rfl, _⟩ := h
  rfl
theorem ok__law_state {f : Addr} {fd : FuncData} (F : Fun K "_law_state" "_law_state" s__law_state f fd) (T : Gs K mg a_LockTable) : FnOk P w K mg base CX0 1 f fd ["_law_script"] (sp__law_state K) := by
  refine F.ok sc__law_state (fun vs H Q E h => len__law_state h) (fun cdv A outer s H vs Q E hr h => ?_)
  obtain ⟨a, ns, rfl, hS, hl, q⟩ := h
  refine ⟨_, (pss_one (ps_ret (pe_lst (pa_cons (pe_callTy (listK K) (by rfl) T.z_list (by decide +kernel) (pa_cons (v_ 0) pa_nil)) (pa_cons pe_int (pa_cons pe_int (pa_cons pe_int (pa_cons pe_int pa_nil)))))))), ?_⟩
  refine ⟨_, _, rfl, .inl hS, fun l nl => ?_⟩
  refine ⟨(by show 5 ≤ sizeLine; decide), fun st nst => ?_⟩
  have hne := new_ne nst
  refine q _ st l ((same_new nl).trans (same_new nst)) (free_new nst) nl ⟨ns, 0, 0, 0, 0, upd_same, ?_, hl, by omega⟩
  rw [upd_ne hne.symm, upd_same]

theorem at_list {α : Type} {xs : List α} {r : Int} (h0 : 0 ≤ r) (h1 : r < xs.length) : ∃ x, atI xs r = some x ∧ x ∈ xs := by
  have hi : r.toNat < xs.length := by omega
  refine ⟨xs[r.toNat], ?_, List.getElem_mem hi⟩
  have hq : atI xs ((r.toNat : Nat) : Int) = some xs[r.toNat] := atI_nat (List.getElem?_eq_getElem hi)
  rwa [show ((r.toNat : Nat) : Int) = r by omega] at hq
theorem at_str {z : Str} {r : Int} (h0 : 0 ≤ r) (h1 : r < z.length) : ∃ c, atI z.cps.toList r = some c ∧ c ∈ z.cps.toList := at_list h0 (by rw [len_cps]; exact h1)
theorem many_small {m : Int} (h0 : 0 < m) (h1 : m ≤ 1000000000) : m.natAbs < 2 ^ 200 := Nat.lt_of_le_of_lt (show m.natAbs ≤ 2 ^ 30 by omega) (Nat.pow_lt_pow_right (by decide) (by decide))
/-! ### _law_pick -/
def sp__law_pick (K : PySem.W.Frag) : Sp := fun vs H Q _ => ∃ (st scr : Addr) (v : V), vs = [.ref st, v] ∧ DrAt H st scr ∧
  ((∃ z : Str, v = .str z ∧ 0 < z.length ∧ z.length ≤ 1000 ∧ ∀ (c : Nat) (l : List V), c ∈ z.cps.toList → DrAt (upd H st (.lst l)) st scr → Q (.str ⟨#[c]⟩) (upd H st (.lst l))) ∨
    ∃ (p : Addr) (xs : List V), v = .ref p ∧ H p = some (.lst xs) ∧ p ≠ st ∧ 0 < xs.length ∧ xs.length ≤ 1000 ∧ ∀ (x : V) (l : List V), x ∈ xs → DrAt (upd H st (.lst l)) st scr → Q x (upd H st (.lst l)))
theorem len__law_pick {vs : List V} {H : Hp} {Q : VK} {E : XK} (h : sp__law_pick K vs H Q E) : vs.length = 2 := by
  obtain ⟨_, _, _, rfl, _⟩ := h
  rfl
theorem ok__law_pick {f : Addr} {fd : FuncData} {f__law_draw : Addr} {fd__law_draw : FuncData} (F : Fun K "_law_pick" "_law_pick" s__law_pick f fd) (T : Gs K mg a_LockTable) (c__law_draw : Cal P w K mg base CX0 1 "_law_draw" f__law_draw fd__law_draw ["_law_state_here", "_law_many"] (sp__law_draw K)) : FnOk P w K mg base CX0 2 f fd ["_law_state_here", "_law_row"] (sp__law_pick K) := by
  refine F.ok sc__law_pick (fun vs H Q E h => len__law_pick h) (fun cdv A outer s H vs Q E hr h => ?_)
  obtain ⟨st, scr, v, rfl, hd, h⟩ := h
  refine ⟨_, (pss_one (ps_ret (e_x K (v_ 1) (pe_call c__law_draw.G (hr.mono (by first | decide | omega)) rfl c__law_draw.m c__law_draw.kp c__law_draw.b .nil pass0 (pa_cons (v_ 0) (pa_cons (pe_callB (lenK K) (by rfl) T.z_len PySem.boot_len (pa_cons (v_ 1) pa_nil)) pa_nil)))))), ?_⟩
  rcases h with ⟨z, rfl, h0, h1, q⟩ | ⟨p, xs, rfl, hp, hne, h0, h1, q⟩
  · refine ⟨line_of (by omega), st, scr, _, rfl, hd, by omega, many_small (by omega) (by omega), fun r l r0 r1 hd' => ?_⟩
    obtain ⟨c, hc, hm⟩ := at_str r0 r1
    exact ⟨line_of (by omega), c, hc, q c l hm hd'⟩
  · refine .inl ⟨_, .inl (SqL.of hp), st, scr, _, rfl, hd, by omega, many_small (by omega) (by omega), fun r l r0 r1 hd' => ?_⟩
    obtain ⟨x, hx, hm⟩ := at_list r0 r1
    exact ⟨_, .inl (SqL.of (by rw [upd_ne hne]; exact hp)), x, hx, q x l hm hd'⟩

theorem cutV_take (xs : List V) {k : Int} (h : 0 ≤ k) : cutV xs none (some k) = xs.take k.toNat := by
  unfold cutV
  have e := HT.sIx_nat xs.length xs.length k.toNat
  rw [show ((k.toNat : Nat) : Int) = k by omega] at e
  rw [e, HT.sIx_none, List.drop_zero]
  by_cases hk : k.toNat ≤ xs.length
  · rw [Nat.min_eq_left hk, Nat.sub_zero]
  · rw [Nat.min_eq_right (by omega), Nat.sub_zero, List.take_length, List.take_of_length_le (by omega)]
theorem cutV_drop (xs : List V) {k : Int} (h : 0 ≤ k) : cutV xs (some k) none = xs.drop k.toNat := by
  unfold cutV
  have e := HT.sIx_nat xs.length 0 k.toNat
  rw [show ((k.toNat : Nat) : Int) = k by omega] at e
  rw [e, HT.sIx_none]
  by_cases hk : k.toNat ≤ xs.length
  · rw [Nat.min_eq_left hk, List.take_of_length_le (by rw [List.length_drop]; omega)]
  · rw [Nat.min_eq_right (by omega), List.drop_of_length_le (Nat.le_refl _), List.drop_of_length_le (by omega)]
    exact List.take_nil
def sp__law_mixed (K : PySem.W.Frag) : Sp := fun vs H Q _ => ∃ (st scr p : Addr) (xs : List V), vs = [.ref st, .ref p] ∧ DrAt H st scr ∧ H p = some (.lst xs) ∧ p ≠ st ∧ xs.length ≤ 1000 ∧
  ∀ (H' : Hp) (r : Addr) (ys : List V), Bt st H H' → DrAt H' st scr → H r = none → H' r = some (.lst ys) → ys.Perm xs → Q (.ref r) H'
theorem len__law_mixed {vs : List V} {H : Hp} {Q : VK} {E : XK} (h : sp__law_mixed K vs H Q E) : vs.length = 2 := by
  obtain ⟨_, _, _, _, rfl, _⟩ := h
  rfl
theorem ok__law_mixed {f : Addr} {fd : FuncData} {f__law_draw : Addr} {fd__law_draw : FuncData} (F : Fun K "_law_mixed" "_law_mixed" s__law_mixed f fd) (T : Gs K mg a_LockTable) (c__law_draw : Cal P w K mg base CX0 1 "_law_draw" f__law_draw fd__law_draw ["_law_state_here", "_law_many"] (sp__law_draw K)) : FnOk P w K mg base CX0 2 f fd ["_law_state_here", "_law_row"] (sp__law_mixed K) := by
  refine F.ok sc__law_mixed (fun vs H Q E h => len__law_mixed h) (fun cdv A outer s H vs Q E hr h => ?_)
  obtain ⟨st, scr, p, xs, rfl, hd, hp, hne, hl, q⟩ := h
  refine ⟨_, (pss_cons (ps_set (i := 2) sc__law_mixed.nd rfl (.inl rfl) (pe_callTy (listK K) (by rfl) T.z_list (by decide +kernel) (pa_cons (v_ 1) pa_nil))) (pss_cons (ps_set (i := 3) sc__law_mixed.nd rfl (.inl rfl) (pe_lst pa_nil)) (pss_cons (ps_for PassesOwn.never rfl (pi_range1 rfl T.z_range (pa_cons (pe_callB (lenK K) (by rfl) T.z_len PySem.boot_len (pa_cons (v_ 1) pa_nil)) pa_nil)) (pg_name (i := 4) sc__law_mixed.nd rfl (.inl rfl)) (pss_cons (ps_set (i := 5) sc__law_mixed.nd rfl (.inl rfl) (pe_call c__law_draw.G (hr.mono (by first | decide | omega)) rfl c__law_draw.m c__law_draw.kp c__law_draw.b .nil pass0 (pa_cons (v_ 0) (pa_cons (pe_callB (lenK K) (by rfl) T.z_len PySem.boot_len (pa_cons (v_ 2) pa_nil)) pa_nil)))) (pss_cons (ps_expr (pe_bm PySem.F.plainAttrs_list PySem.F.slot_list_append PySem.F.type_list_append mt_append (v_ 3) (pa_cons (e_x K (v_ 2) (v_ 5)) pa_nil))) (pss_one (ps_set (i := 2) sc__law_mixed.nd rfl (.inl rfl) (pe_op (addK K) (pe_slice (slK K) (v_ 2) po_none (po_some (v_ 5))) (pe_slice (slK K) (v_ 2) (po_some (pe_op (addK K) (v_ 5) pe_int)) po_none))))))) (pss_one (ps_ret (v_ 3)))))), ?_⟩
  refine ⟨_, _, rfl, .inl (SqL.of hp), fun t nt => ?_⟩
  refine ⟨Nat.zero_le _, fun r nr => ?_⟩
  have tr := new_ne nr
  have hr0 := free_new nr
  have hd0 := (hd.new (same_new (o := .lst xs) nt)).new (same_new (o := .lst []) nr)
  have ts : t ≠ st := hd.ne_new nt
  have rs : r ≠ st := hd.ne_new hr0
  have rc : r ≠ scr := hd.ne_scr hr0
  refine .inl ⟨_, .inl (SqL.of (by rw [upd_ne (ne_of_none hp hr0), upd_ne (ne_of_none hp nt)]; exact hp)), xs.length, rfl, by omega, by omega, ?_⟩
  refine for_range (lo := 0) (n := xs.length) (fun i σ' H' => ∃ (t : Addr) (rest ys : List V) (y z : Option V), σ' = [some (.ref st), some (.ref p), some (.ref t), some (.ref r), y, z] ∧ Bt st H H' ∧ DrAt H' st scr ∧ t ≠ st ∧ t ≠ r ∧ H' t = some (.lst rest) ∧ H' r = some (.lst ys) ∧ rest.length + i = xs.length ∧ ys.length = i ∧ (rest ++ ys).Perm xs) ?_ ?_ ?_
  · exact ⟨t, xs, [], _, _, rfl, .same ((same_new nt).trans (same_new nr)), hd0, ts, tr.symm, by rw [upd_ne tr.symm, upd_same], upd_same, rfl, rfl, by rw [List.append_nil]⟩
  · rintro i σ' H' hi ⟨t, rest, ys, y, z, rfl, bt, hd, ts, tr, ht, hr, l1, l2, m1⟩
    refine .inl ⟨_, .inl (SqL.of ht), st, scr, _, rfl, hd, by omega, many_small (by omega) (by omega), fun a l a0 a1 hd' => ?_⟩
    have ht1 : upd H' st (.lst l) t = some (.lst rest) := by rw [upd_ne ts]; exact ht
    have hr1 : upd H' st (.lst l) r = some (.lst ys) := by rw [upd_ne rs]; exact hr
    obtain ⟨x, hx, hm⟩ := at_list a0 a1
    refine ⟨.inl ⟨rfl, _, SqL.of hr1⟩, _, .inl (SqL.of ht1), x, hx, r, ys, x, rfl, rfl, hr1, line_lt (by omega), ?_⟩
    have hd2 := hd'.at (o := .lst (ys ++ [x])) rs rc
    have ht2 : upd (upd H' st (.lst l)) r (.lst (ys ++ [x])) t = some (.lst rest) := by rw [upd_ne tr]; exact ht1
    refine ⟨a, rfl, .inl ⟨rest, SqL.of ht2, fun u nu => ?_⟩⟩
    rw [cutV_take _ a0]
    have ht3 := same_new (o := .lst (rest.take a.toNat)) nu _ _ ht2
    refine ⟨a + 1, rfl, .inl ⟨rest, SqL.of ht3, fun v nv => ?_⟩⟩
    rw [cutV_drop _ (by omega)]
    have hu := same_new (o := .lst (rest.drop (a + 1).toNat)) nv _ _ (upd_same (H := upd (upd H' st (.lst l)) r (.lst (ys ++ [x]))) (a := u) (o := .lst (rest.take a.toNat)))
    refine .inl ⟨_, _, hu, upd_same, line_of (by rw [List.length_take, List.length_drop]; omega), fun k nk => ?_⟩
    have sm := ((same_new (o := .lst (rest.take a.toNat)) nu).trans (same_new (o := .lst (rest.drop (a + 1).toNat)) nv)).trans (same_new (o := .lst (rest.take a.toNat ++ rest.drop (a + 1).toNat)) nk)
    have hd3 := hd2.new sm
    have kn := free_new (free_new nk)
    refine ⟨k, _, ys ++ [x], _, _, rfl, ?_, hd3, hd2.ne_new kn, (ne_of_none upd_same kn).symm, upd_same, sm _ _ upd_same, ?_, by rw [List.length_append, l2]; rfl, ?_⟩
    · intro b o nb hb
      refine sm _ _ ?_
      have := bt b o nb hb
      rw [upd_ne (ne_of_none hb hr0), upd_ne nb]
      exact this
    · rw [List.length_append, List.length_take, List.length_drop]
      omega
    · have hx' : rest[a.toNat]? = some x := by
        obtain ⟨x', e1, e2⟩ : ∃ x', rest[a.toNat]? = some x' ∧ atI rest a = some x' := by
          have hlt : a.toNat < rest.length := by omega
          refine ⟨_, List.getElem?_eq_getElem hlt, ?_⟩
          have := atI_nat (List.getElem?_eq_getElem hlt)
          rwa [show ((a.toNat : Nat) : Int) = a by omega] at this
        rw [hx] at e2
        cases e2
        exact e1
      have hr' : rest = rest.take a.toNat ++ x :: rest.drop (a + 1).toNat := by
        obtain ⟨h1, h2⟩ := List.getElem?_eq_some_iff.mp hx'
        rw [show (a + 1).toNat = a.toNat + 1 by omega, ← h2, ← List.drop_eq_getElem_cons h1, List.take_append_drop]
      refine List.Perm.trans ?_ m1
      rw [← List.append_assoc]
      have p1 : (rest.take a.toNat ++ rest.drop (a + 1).toNat ++ ys ++ [x]).Perm (rest.take a.toNat ++ (x :: rest.drop (a + 1).toNat) ++ ys) := by
        refine (List.perm_append_comm (l₁ := rest.take a.toNat ++ rest.drop (a + 1).toNat ++ ys) (l₂ := [x])).trans ?_
        rw [List.append_assoc, List.append_assoc]
        exact (List.perm_middle (a := x) (l₁ := rest.take a.toNat) (l₂ := rest.drop (a + 1).toNat ++ ys)).symm
      rw [← hr'] at p1
      exact p1
  · rintro σ' H' ⟨t, rest, ys, y, z, rfl, bt, hd, ts, tr, ht, hr, l1, l2, m1⟩
    refine q H' r ys bt hd hr0 hr ?_
    have : rest = [] := List.eq_nil_of_length_eq_zero (by omega)
    rw [this] at m1
    exact m1
end
section
variable {P : Program} {w : World} {K : PySem.W.Frag} {mg : Str → Option Value} {base : Heap}
variable {a_LockTable : Addr}
theorem take_snoc {α : Type} {xs : List α} {i : Nat} {x : α} (h : xs[i]? = some x) : xs.take (i + 1) = xs.take i ++ [x] := by
  rw [List.take_add_one, h]
  rfl
theorem SqT.same {K : PySem.W.Frag} {H H' : Hp} {a : Addr} {xs : List V} (h : SqT K H a xs) (s : Same H H') : SqT K H' a xs := by
  rcases h with (h | ⟨o, h⟩) | h
  · exact .inl (.inl (s _ _ h))
  · exact .inl (.inr ⟨o, s _ _ h⟩)
  · exact .inr h
/-- no tuple stands at st -/
def NT (H : Hp) (st : Addr) : Prop := ∀ xs : List V, H st ≠ some (.tup xs) ∧ ∀ o, H st ≠ some (.frz o (.tup xs))
theorem NT.lst {H : Hp} {st : Addr} (h : ∃ l, H st = some (.lst l)) : NT H st := fun xs => by
  obtain ⟨l, h⟩ := h
  rw [h]
  exact ⟨(fun e => by cases e), (fun o e => by cases e)⟩
theorem NT.ins {H : Hp} {st C dx : Addr} {fs : List (Str × V)} (h : H st = some (.ins C dx fs)) : NT H st := fun xs => by
  rw [h]
  exact ⟨(fun e => by cases e), (fun o e => by cases e)⟩
theorem SqT.bt {K : PySem.W.Frag} {H H' : Hp} {a st : Addr} {xs : List V} (h : SqT K H a xs) (hs : NT H st) (s : Bt st H H') : SqT K H' a xs := by
  rcases h with (h | ⟨o, h⟩) | h
  · exact .inl (.inl (s _ _ (fun e => (hs xs).1 (e ▸ h)) h))
  · exact .inl (.inr ⟨o, s _ _ (fun e => (hs xs).2 o (e ▸ h)) h⟩)
  · exact .inr h
theorem ty_tup {K : PySem.W.Frag} {H : Hp} {a : Addr} {xs : List V} (h : SqT K H a xs) : TyX K H (.ref a) (.type "tuple") := by
  rcases h with (h | ⟨o, h⟩) | ⟨o, its, n, e, c, _⟩
  · exact .base (.tup h)
  · exact .fTuple h
  · exact .kTuple e c
def Bd (i : Int) : Prop := -1000000000000000000000000000000 ≤ i ∧ i ≤ 1000000000000000000000000000000
def sp__law_number (K : PySem.W.Frag) : Sp := fun vs H Q _ => ∃ (st scr : Addr), vs = [.ref st] ∧ DrAt H st scr ∧ ∀ (l : List V) (i : Int), Bd i → DrAt (upd H st (.lst l)) st scr → Q (.int i) (upd H st (.lst l))
theorem len__law_number {vs : List V} {H : Hp} {Q : VK} {E : XK} (h : sp__law_number K vs H Q E) : vs.length = 1 := by
  obtain ⟨_, _, rfl, _⟩ := h
  rfl
theorem p30 : (10 : Int) ^ (30 : Int).toNat = 1000000000000000000000000000000 := by decide +kernel
theorem ok__law_number {f : Addr} {fd : FuncData} {f__law_draw : Addr} {fd__law_draw : FuncData} (F : Fun K "_law_number" "_law_number" s__law_number f fd) (T : Gs K mg a_LockTable) (c__law_draw : Cal P w K mg base CX0 1 "_law_draw" f__law_draw fd__law_draw ["_law_state_here", "_law_many"] (sp__law_draw K)) : FnOk P w K mg base CX0 2 f fd ["_law_state_here"] (sp__law_number K) := by
  refine F.ok sc__law_number (fun vs H Q E h => len__law_number h) (fun cdv A outer s H vs Q E hr h => ?_)
  obtain ⟨st, scr, rfl, hd, q⟩ := h
  refine ⟨_, (pss_cons (ps_set (i := 1) sc__law_number.nd rfl (.inl rfl) (pe_call c__law_draw.G (hr.mono (by first | decide | omega)) rfl c__law_draw.m c__law_draw.kp c__law_draw.b .nil pass0 (pa_cons (v_ 0) (pa_cons pe_int pa_nil)))) (pss_cons (ps_if (pt_c op_ltM (v_ 1) pe_int) (pss_one (ps_ret (pe_op op_subM (pe_call c__law_draw.G (hr.mono (by first | decide | omega)) rfl c__law_draw.m c__law_draw.kp c__law_draw.b .nil pass0 (pa_cons (v_ 0) (pa_cons pe_int pa_nil))) pe_int))) pss_nil) (pss_cons (ps_if (pt_c (eqK K hr.units) (v_ 1) pe_int) (pss_one (ps_ret (pe_op op_subM (pe_call c__law_draw.G (hr.mono (by first | decide | omega)) rfl c__law_draw.m c__law_draw.kp c__law_draw.b .nil pass0 (pa_cons (v_ 0) (pa_cons pe_int pa_nil))) pe_int))) pss_nil) (pss_cons (ps_if (pt_c (eqK K hr.units) (v_ 1) pe_int) (pss_one (ps_ret (pe_op op_subM (pe_op op_powM pe_int pe_int) (pe_call c__law_draw.G (hr.mono (by first | decide | omega)) rfl c__law_draw.m c__law_draw.kp c__law_draw.b .nil pass0 (pa_cons (v_ 0) (pa_cons pe_int pa_nil)))))) pss_nil) (pss_cons (ps_if (pt_c (eqK K hr.units) (v_ 1) pe_int) (pss_one (ps_ret (pe_op op_subM (pe_call c__law_draw.G (hr.mono (by first | decide | omega)) rfl c__law_draw.m c__law_draw.kp c__law_draw.b .nil pass0 (pa_cons (v_ 0) (pa_cons pe_int pa_nil))) (pe_op op_powM pe_int pe_int)))) pss_nil) (pss_one (ps_ret (pe_op op_subM (pe_call c__law_draw.G (hr.mono (by first | decide | omega)) rfl c__law_draw.m c__law_draw.kp c__law_draw.b .nil pass0 (pa_cons (v_ 0) (pa_cons (pe_op (addK K) (pe_op op_mulSM pe_int (pe_op op_powM pe_int pe_int)) pe_int) pa_nil))) (pe_op op_powM pe_int pe_int))))))))), ?_⟩
  refine ⟨st, scr, _, rfl, hd, by decide, many_small (by decide) (by decide), fun kd l _ _ hd1 => ?_⟩
  have q : ∀ (l2 : List V) (i : Int), Bd i → DrAt (upd (upd H st (.lst l)) st (.lst l2)) st scr → Q (.int i) (upd (upd H st (.lst l)) st (.lst l2)) := fun l2 i b d => by
    rw [upd_upd] at d ⊢
    exact q l2 i b d
  generalize upd H st (.lst l) = H1 at hd1 q ⊢
  refine ite2 (fun e => ?_) (fun e => ?_)
  · refine ⟨st, scr, _, rfl, hd1, by decide, many_small (by decide) (by decide), fun r l2 r0 r1 hd2 => ?_⟩
    exact q l2 _ (by unfold Bd; omega) hd2
  refine ite2 (fun e => ?_) (fun e => ?_)
  · refine ⟨st, scr, _, rfl, hd1, by decide, many_small (by decide) (by decide), fun r l2 r0 r1 hd2 => ?_⟩
    exact q l2 _ (by unfold Bd; omega) hd2
  refine ite2 (fun e => ?_) (fun e => ?_)
  · refine ⟨(by unfold CPow; decide), ?_⟩
    refine ⟨st, scr, _, rfl, hd1, by decide, many_small (by decide) (by decide), fun r l2 r0 r1 hd2 => ?_⟩
    rw [p30]
    exact q l2 _ (by unfold Bd; omega) hd2
  refine ite2 (fun e => ?_) (fun e => ?_)
  · refine ⟨st, scr, _, rfl, hd1, by decide, many_small (by decide) (by decide), fun r l2 r0 r1 hd2 => ?_⟩
    refine ⟨(by unfold CPow; decide), ?_⟩
    rw [p30]
    exact q l2 _ (by unfold Bd; omega) hd2
  refine ⟨(by unfold CPow; decide), ?_⟩
  rw [p30]
  refine ⟨.inl (.inl ⟨by decide, by decide⟩), ?_⟩
  refine ⟨st, scr, _, rfl, hd1, by decide, by decide +kernel, fun r l2 r0 r1 hd2 => ?_⟩
  refine ⟨(by unfold CPow; decide), ?_⟩
  rw [p30]
  exact q l2 _ (by unfold Bd; omega) hd2
def sp__law_constant (K : PySem.W.Frag) : Sp := sp__law_number K
theorem len__law_constant {vs : List V} {H : Hp} {Q : VK} {E : XK} (h : sp__law_constant K vs H Q E) : vs.length = 1 := len__law_number h
theorem ok__law_constant {f : Addr} {fd : FuncData} {f__law_number : Addr} {fd__law_number : FuncData} {f__law_draw : Addr} {fd__law_draw : FuncData} (F : Fun K "_law_constant" "_law_constant" s__law_constant f fd) (T : Gs K mg a_LockTable) (c__law_number : Cal P w K mg base CX0 2 "_law_number" f__law_number fd__law_number ["_law_state_here"] (sp__law_number K)) (c__law_draw : Cal P w K mg base CX0 1 "_law_draw" f__law_draw fd__law_draw ["_law_state_here", "_law_many"] (sp__law_draw K)) : FnOk P w K mg base CX0 3 f fd ["_law_state_here"] (sp__law_constant K) := by
  refine F.ok sc__law_constant (fun vs H Q E h => len__law_constant h) (fun cdv A outer s H vs Q E hr h => ?_)
  obtain ⟨st, scr, rfl, hd, q⟩ := h
  refine ⟨_, (pss_cons (ps_if (pt_c op_ltM (pe_call c__law_draw.G (hr.mono (by first | decide | omega)) rfl c__law_draw.m c__law_draw.kp c__law_draw.b .nil pass0 (pa_cons (v_ 0) (pa_cons pe_int pa_nil))) pe_int) (pss_one (ps_ret (pe_op op_subM (pe_call c__law_draw.G (hr.mono (by first | decide | omega)) rfl c__law_draw.m c__law_draw.kp c__law_draw.b .nil pass0 (pa_cons (v_ 0) (pa_cons pe_int pa_nil))) pe_int))) pss_nil) (pss_one (ps_ret (pe_call c__law_number.G (hr.mono (by first | decide | omega)) rfl c__law_number.m c__law_number.kp c__law_number.b .nil pass0 (pa_cons (v_ 0) pa_nil))))), ?_⟩
  refine ⟨st, scr, _, rfl, hd, by decide, many_small (by decide) (by decide), fun kd l _ _ hd1 => ?_⟩
  have q : ∀ (l2 : List V) (i : Int), Bd i → DrAt (upd (upd H st (.lst l)) st (.lst l2)) st scr → Q (.int i) (upd (upd H st (.lst l)) st (.lst l2)) := fun l2 i b d => by
    rw [upd_upd] at d ⊢
    exact q l2 i b d
  refine ite2 (fun e => ?_) (fun e => ?_)
  · refine ⟨st, scr, _, rfl, hd1, by decide, many_small (by decide) (by decide), fun r l2 r0 r1 hd2 => ?_⟩
    exact q l2 _ (by unfold Bd; omega) hd2
  · exact ⟨st, scr, rfl, hd1, fun l2 i b d => q l2 i b d⟩

end
section
variable {P : Program} {w : World} {K : PySem.W.Frag} {mg : Str → Option Value} {base : Heap}
variable {a_LockTable : Addr}
/-! ### is_name -/
abbrev letters : Str := "abcdefghijklmnopqrstuvwxyz"
abbrev resv : List V := [.str "always", .str "never", .str "and", .str "or", .str "not", .str "when", .str "add", .str "set", .str "change", .str "tell", .str "refuse", .str "take", .str "look", .str "free", .str "lock", .str "keep", .str "keys", .str "fields"]
def isName (z : Str) : Bool := if (decide ((z.length : Int) < 1) || decide ((12 : Int) < z.length) || inV (.str z) resv) = true then false else z.cps.toList.all fun c => decide (c ∈ letters.cps.toList)
/-! ### names -/
/-- small letters, of which the one at p is c -/
def Lt (z : Str) (p c : Nat) : Prop := (∀ d ∈ z.cps.toList, d ∈ letters.cps.toList) ∧ z.cps.toList[p]? = some c ∧ z.length ≤ 12
theorem Lt.name {z : Str} {p c : Nat} (h : Lt z p c) (hr : inV (.str z) resv = false) : isName z = true := by
  unfold isName
  have h0 : ¬ ((z.length : Int) < 1) := by
    have := (List.getElem?_eq_some_iff.mp h.2.1).1
    rw [len_cps] at this
    omega
  have h1 : ¬ ((12 : Int) < z.length) := by have := h.2.2; omega
  rw [decide_eq_false h0, decide_eq_false h1, hr]
  show (z.cps.toList.all fun c => decide (c ∈ letters.cps.toList)) = true
  exact List.all_eq_true.mpr fun d hd => decide_eq_true (h.1 d hd)
theorem resv_strs : resv = (["always", "never", "and", "or", "not", "when", "add", "set", "change", "tell", "refuse", "take", "look", "free", "lock", "keep", "keys", "fields"] : List Str).map V.str := rfl
theorem resv_z {z : Str} (h : inV (.str z) resv = true) : inV (.str (z ++ "z")) resv = false ∧ z.length ≤ 7 := by
  rw [resv_strs, inV_str, decide_eq_true_iff] at h
  have all : (["always", "never", "and", "or", "not", "when", "add", "set", "change", "tell", "refuse", "take", "look", "free", "lock", "keep", "keys", "fields"] : List Str).all (fun z => !inV (.str (z ++ "z")) resv && decide (z.length ≤ 7)) = true := by decide +kernel
  have := List.all_eq_true.mp all z h
  rw [Bool.and_eq_true, Bool.not_eq_true', decide_eq_true_iff] at this
  exact this
end
section
variable {P : Program} {w : World} {K : PySem.W.Frag} {mg : Str → Option Value} {base : Heap}
variable {a_LockTable : Addr}
theorem cutS_take (z : Str) {k : Nat} : (cutS z none (some (k : Int))).cps.toList = z.cps.toList.take k := by
  unfold cutS
  rw [List.toList_toArray, HT.sIx_nat, HT.sIx_none, List.drop_zero, Nat.sub_zero, List.take_eq_take_iff, len_cps]
  omega
theorem cutS_drop (z : Str) {k : Nat} : (cutS z (some (k : Int)) none).cps.toList = z.cps.toList.drop k := by
  unfold cutS
  rw [List.toList_toArray, HT.sIx_nat, HT.sIx_none]
  by_cases h : k ≤ z.length
  · rw [Nat.min_eq_left h, List.take_of_length_le (by rw [List.length_drop, len_cps]; omega)]
  · rw [Nat.min_eq_right (by omega), List.drop_of_length_le (by rw [len_cps]; omega), List.drop_of_length_le (by rw [len_cps]; omega), List.take_nil]
theorem letter_at {i : Int} (h0 : 0 ≤ i) (h1 : i < 26) : atI letters.cps.toList i = some (97 + i.toNat) := by
  have all : ∀ j : Fin 26, letters.cps.toList[j.val]? = some (97 + j.val) := by decide +kernel
  have := all ⟨i.toNat, by omega⟩
  have hq := atI_nat this
  rwa [show ((i.toNat : Nat) : Int) = i by omega] at hq
theorem letter_mem {i : Nat} (h1 : i < 26) : (97 + i) ∈ letters.cps.toList := by
  have all : ∀ j : Fin 26, (97 + j.val) ∈ letters.cps.toList := by decide +kernel
  exact all ⟨i, h1⟩
theorem one_len (c : Nat) : (⟨#[c]⟩ : Str).length = 1 := rfl
theorem one_cps (c : Nat) : (⟨#[c]⟩ : Str).cps.toList = [c] := rfl
theorem Lt.z {z : Str} {p c : Nat} (h : Lt z p c) (hl : z.length ≤ 7) : Lt (z ++ "z") p c := by
  refine ⟨fun d hd => ?_, ?_, ?_⟩
  · rw [cps_add] at hd
    rcases List.mem_append.mp hd with e | e
    · exact h.1 d e
    · have : d = 122 := by simpa using (show d ∈ [122] from e)
      rw [this]
      decide +kernel
  · rw [cps_add, List.getElem?_append_left (List.getElem?_eq_some_iff.mp h.2.1).1]
    exact h.2.1
  · rw [len_add]
    show z.length + 1 ≤ 12
    omega
def sp__law_names (K : PySem.W.Frag) : Sp := fun vs H Q _ => ∃ (st scr : Addr) (n : Nat), vs = [.ref st, .int n] ∧ DrAt H st scr ∧ n ≤ 26 ∧
  ∀ (H' : Hp) (p : Addr) (zs : List Str), Bt st H H' → DrAt H' st scr → H p = none → H' p = some (.lst (zs.map V.str)) → zs.length = n → (∀ z ∈ zs, isName z = true ∧ z.length ≤ 12) → zs.Nodup → Q (.ref p) H'
theorem len__law_names {vs : List V} {H : Hp} {Q : VK} {E : XK} (h : sp__law_names K vs H Q E) : vs.length = 2 := by
  obtain ⟨_, _, _, rfl, _⟩ := h
  rfl
theorem ok__law_names {f : Addr} {fd : FuncData} {f__law_draw : Addr} {fd__law_draw : FuncData} (F : Fun K "_law_names" "_law_names" s__law_names f fd) (T : Gs K mg a_LockTable) (c__law_draw : Cal P w K mg base CX0 1 "_law_draw" f__law_draw fd__law_draw ["_law_state_here", "_law_many"] (sp__law_draw K)) : FnOk P w K mg base CX0 2 f fd ["_law_state_here", "_law_many"] (sp__law_names K) := by
  refine F.ok sc__law_names (fun vs H Q E h => len__law_names h) (fun cdv A outer s H vs Q E hr h => ?_)
  obtain ⟨st, scr, n, rfl, hd, hn, q⟩ := h
  refine ⟨_, (pss_cons (ps_set (i := 2) sc__law_names.nd rfl (.inl rfl) pe_str) (pss_cons (ps_set (i := 3) sc__law_names.nd rfl (.inl rfl) (pe_call c__law_draw.G (hr.mono (by first | decide | omega)) rfl c__law_draw.m c__law_draw.kp c__law_draw.b .nil pass0 (pa_cons (v_ 0) (pa_cons pe_int pa_nil)))) (pss_cons (ps_set (i := 4) sc__law_names.nd rfl (.inl rfl) (pe_call c__law_draw.G (hr.mono (by first | decide | omega)) rfl c__law_draw.m c__law_draw.kp c__law_draw.b .nil pass0 (pa_cons (v_ 0) (pa_cons pe_int pa_nil)))) (pss_cons (ps_set (i := 5) sc__law_names.nd rfl (.inl rfl) (pe_call c__law_draw.G (hr.mono (by first | decide | omega)) rfl c__law_draw.m c__law_draw.kp c__law_draw.b .nil pass0 (pa_cons (v_ 0) (pa_cons pe_int pa_nil)))) (pss_cons (ps_set (i := 6) sc__law_names.nd rfl (.inl rfl) (pe_call c__law_draw.G (hr.mono (by first | decide | omega)) rfl c__law_draw.m c__law_draw.kp c__law_draw.b .nil pass0 (pa_cons (v_ 0) (pa_cons pe_int pa_nil)))) (pss_cons (ps_set (i := 7) sc__law_names.nd rfl (.inl rfl) pe_str) (pss_cons (ps_for PassesOwn.never rfl (pi_range1 rfl T.z_range (pa_cons pe_int pa_nil)) (pg_name (i := 8) sc__law_names.nd rfl (.inl rfl)) (pss_cons (ps_set (i := 7) sc__law_names.nd rfl (.inl rfl) (pe_op (addK K) (v_ 7) (e_x K (v_ 2) (pe_op op_modM (pe_callTy call_intM (by rfl) T.z_int (by decide +kernel) (pa_cons (v_ 5) pa_nil)) pe_int)))) (pss_one (ps_set (i := 5) sc__law_names.nd rfl (.inl rfl) (pe_op op_divM (pe_callTy call_intM (by rfl) T.z_int (by decide +kernel) (pa_cons (v_ 5) pa_nil)) pe_int))))) (pss_cons (ps_set (i := 9) sc__law_names.nd rfl (.inl rfl) (pe_lst (pa_cons pe_str (pa_cons pe_str (pa_cons pe_str (pa_cons pe_str (pa_cons pe_str (pa_cons pe_str (pa_cons pe_str (pa_cons pe_str (pa_cons pe_str (pa_cons pe_str (pa_cons pe_str (pa_cons pe_str pa_nil)))))))))))))) (pss_cons (ps_set (i := 9) sc__law_names.nd rfl (.inl rfl) (pe_op (addK K) (v_ 9) (pe_lst (pa_cons pe_str (pa_cons pe_str (pa_cons pe_str (pa_cons pe_str (pa_cons pe_str (pa_cons pe_str pa_nil))))))))) (pss_cons (ps_set (i := 10) sc__law_names.nd rfl (.inl rfl) (pe_lst pa_nil)) (pss_cons (ps_for PassesOwn.never rfl (pi_range1 rfl T.z_range (pa_cons (v_ 1) pa_nil)) (pg_name (i := 8) sc__law_names.nd rfl (.inl rfl)) (pss_cons (ps_set (i := 11) sc__law_names.nd rfl (.inl rfl) (e_x K (v_ 2) (pe_op op_modM (pe_callTy call_intM (by rfl) T.z_int (by decide +kernel) (pa_cons (pe_op (addK K) (v_ 4) (pe_op op_mulSM pe_int (v_ 8))) pa_nil)) pe_int))) (Evl.pss_cut (ps_if (pt_c (eqK K hr.units) (v_ 3) pe_int) (pss_one (ps_set (i := 11) sc__law_names.nd rfl (.inl rfl) (pe_op (addK K) (pe_op (addK K) (pe_slice (slK K) (v_ 7) po_none (po_some (v_ 6))) (v_ 11)) (pe_slice (slK K) (v_ 7) (po_some (v_ 6)) po_none)))) pss_nil) (Evl.pss_cut (ps_if (pt_c (eqK K hr.units) (v_ 3) pe_int) (pss_one (ps_set (i := 11) sc__law_names.nd rfl (.inl rfl) (pe_op (addK K) (v_ 11) (pe_slice (slK K) (v_ 7) po_none (po_some (pe_op op_modM (pe_callTy call_intM (by rfl) T.z_int (by decide +kernel) (pa_cons (pe_op (addK K) (pe_op op_mulSM pe_int (v_ 8)) (v_ 6)) pa_nil)) pe_int)))))) pss_nil) (Evl.pss_cut (ps_if (pt_c (eqK K hr.units) (v_ 3) pe_int) (pss_one (ps_set (i := 11) sc__law_names.nd rfl (.inl rfl) (pe_op (addK K) (pe_op (addK K) (pe_slice (slK K) (v_ 7) po_none (po_some pe_int)) (v_ 11)) (v_ 7)))) pss_nil) (Evl.pss_cut (ps_if (pt_c (inK K) (v_ 11) (v_ 9)) (pss_one (ps_set (i := 11) sc__law_names.nd rfl (.inl rfl) (pe_op (addK K) (v_ 11) pe_str))) pss_nil) (pss_one (ps_expr (pe_bm PySem.F.plainAttrs_list PySem.F.slot_list_append PySem.F.type_list_append mt_append (v_ 10) (pa_cons (v_ 11) pa_nil)))))))))) (pss_one (ps_ret (v_ 10)))))))))))))), ?_⟩
  refine ⟨st, scr, _, rfl, hd, by decide, many_small (by decide) (by decide), fun sty l1 s0 s1 hd1 => ?_⟩
  have b1 : Bt st H (upd H st (.lst l1)) := Bt.st
  generalize upd H st (.lst l1) = H1 at hd1 b1 ⊢
  refine ⟨st, scr, _, rfl, hd1, by decide, many_small (by decide) (by decide), fun sh l2 h0 h1 hd2 => ?_⟩
  have b2 := b1.trans (Bt.st (st := st) (o := .lst l2))
  generalize upd H1 st (.lst l2) = H2 at hd2 b2 ⊢
  refine ⟨st, scr, _, rfl, hd2, by decide, many_small (by decide) (by decide), fun cd l3 c0 c1 hd3 => ?_⟩
  have b3 := b2.trans (Bt.st (st := st) (o := .lst l3))
  generalize upd H2 st (.lst l3) = H3 at hd3 b3 ⊢
  refine ⟨st, scr, _, rfl, hd3, by decide, many_small (by decide) (by decide), fun spt l4 p0 p1 hd4 => ?_⟩
  have b4 := b3.trans (Bt.st (st := st) (o := .lst l4))
  generalize upd H3 st (.lst l4) = H4 at hd4 b4 ⊢
  refine ⟨6, rfl, by decide, by decide, ?_⟩
  refine for_range (lo := 0) (n := 6) (fun i σ' H' => ∃ (z : Str) (code : Int) (y : Option V), σ' = [some (.ref st), some (.int n), some (.str letters), some (.int sty), some (.int sh), some (.int code), some (.int spt), some (.str z), y, none, none, none] ∧ H' = H4 ∧ z.length = i ∧ ∀ d ∈ z.cps.toList, d ∈ letters.cps.toList) ?_ ?_ ?_
  · exact ⟨_, _, _, rfl, rfl, rfl, fun _ h => nomatch h⟩
  · rintro i σ' H' hi ⟨z, code, y, rfl, rfl, hz, ha⟩
    refine ⟨by decide, ?_⟩
    have r0 := Int.emod_nonneg code (by decide : (26 : Int) ≠ 0)
    have r1 := Int.emod_lt_of_pos code (by decide : (0 : Int) < 26)
    refine ⟨line_of (by decide +kernel), _, letter_at r0 r1, line_of (by rw [one_len]; omega), ?_⟩
    refine ⟨.inl ⟨by decide, by decide⟩, ?_⟩
    refine ⟨_, _, _, rfl, rfl, by rw [len_add, one_len, hz], fun d hd => ?_⟩
    rw [cps_add, one_cps] at hd
    rcases List.mem_append.mp hd with h | h
    · exact ha d h
    · rw [List.mem_singleton.mp h]
      exact letter_mem (by omega)
  rintro σ' H' ⟨bs, code, y, rfl, rfl, hz, ha⟩
  have hbl : bs.cps.toList.length = 6 := by rw [len_cps]; exact hz
  refine ⟨(by show 12 ≤ sizeLine; decide), fun o no => ?_⟩
  refine ⟨(by show 6 ≤ sizeLine; decide), fun p np => ?_⟩
  have hpo := new_ne np
  refine .inl ⟨_, _, (by rw [upd_ne hpo.symm, upd_same]), upd_same, (by show 18 ≤ sizeLine; decide), fun rv nrv => ?_⟩
  have sm := ((same_new (o := .lst [.str "always", .str "never", .str "and", .str "or", .str "not", .str "when", .str "add", .str "set", .str "change", .str "tell", .str "refuse", .str "take"]) no).trans (same_new (o := .lst [.str "look", .str "free", .str "lock", .str "keep", .str "keys", .str "fields"]) np)).trans (same_new (o := .lst resv) nrv)
  generalize hH5 : upd _ rv _ = H5
  have hrv : H5 rv = some (.lst resv) := by rw [← hH5]; exact upd_same
  have hd5 : DrAt H5 st scr := by rw [← hH5]; exact hd4.new sm
  have b5 : Bt st H H5 := by rw [← hH5]; exact b4.trans (Bt.same (st := st) sm)
  clear hH5
  refine ⟨Nat.zero_le _, fun L nL => ?_⟩
  generalize hH6 : upd _ L _ = H6
  have hrv2 : H6 rv = some (.lst resv) := by rw [← hH6]; exact same_new nL _ _ hrv
  have hd6 : DrAt H6 st scr := by rw [← hH6]; exact hd5.new (same_new nL)
  have b6 : Bt st H H6 := by rw [← hH6]; exact b5.trans (Bt.same (st := st) (same_new nL))
  have L0 : H L = none := b5.free (hd5.ne_new nL) nL
  have eL : H6 L = some (.lst []) := by rw [← hH6]; exact upd_same
  have Ls : L ≠ st := hd5.ne_new nL
  have Lc : L ≠ scr := hd5.ne_scr nL
  have Lrv : rv ≠ L := ne_of_none hrv nL
  clear hH6
  refine ⟨n, rfl, by omega, by omega, ?_⟩
  obtain ⟨ps, hps⟩ : ∃ ps : Nat, ps = if sty = 1 then spt.toNat else if sty = 3 then 5 else 0 := ⟨_, rfl⟩
  refine for_range (lo := 0) (n := n) (fun i σ' H' => ∃ (y z : Option V) (zs : List Str), σ' = [some (.ref st), some (.int n), some (.str letters), some (.int sty), some (.int sh), some (.int code), some (.int spt), some (.str bs), y, some (.ref rv), some (.ref L), z] ∧ H' = upd H6 L (.lst (zs.map V.str)) ∧ zs.length = i ∧
    ∀ (j : Nat) (z : Str), zs[j]? = some z → Lt z ps (97 + ((sh + 7 * (j : Int)) % 26).toNat) ∧ inV (.str z) resv = false) ?_ ?_ ?_
  · exact ⟨_, _, [], rfl, (upd_id eL).symm, rfl, fun j z h => nomatch h⟩
  · rintro i σ' H' hi ⟨y, z, zs, rfl, rfl, hzl, hzs⟩
    have r0 := Int.emod_nonneg (sh + 7 * (0 + (i : Int))) (by decide : (26 : Int) ≠ 0)
    have r1 := Int.emod_lt_of_pos (sh + 7 * (0 + (i : Int))) (by decide : (0 : Int) < 26)
    refine ⟨.inl (.inl ⟨by decide, by decide⟩), by decide, ?_⟩
    refine ⟨line_of (by decide +kernel), _, letter_at r0 r1, ?_⟩
    have hcm := letter_mem (i := ((sh + 7 * (0 + (i : Int))) % 26).toNat) (by omega)
    rw [Int.zero_add] at hcm r0 r1 ⊢
    generalize hcc : 97 + ((sh + 7 * (i : Int)) % 26).toNat = ch at hcm ⊢
    have hrv3 : (upd H6 L (.lst (zs.map V.str))) rv = some (.lst resv) := by rw [upd_ne Lrv]; exact hrv2
    refine ⟨fun σ' H' => ∃ w : Str, σ' = [some (.ref st), some (.int n), some (.str letters), some (.int sty), some (.int sh), some (.int code), some (.int spt), some (.str bs), some (.int i), some (.ref rv), some (.ref L), some (.str w)] ∧ H' = upd H6 L (.lst (zs.map V.str)) ∧ (sty = 1 → Lt w ps ch) ∧ (sty ≠ 1 → w = ⟨#[ch]⟩), ?_, ?_⟩
    · refine ite2 (fun e => ?_) (fun e => ?_)
      · have e : sty = 1 := of_decide_eq_true e
        have l1 := cutS_length bs none (some spt)
        have l2 := cutS_length bs (some spt) none
        have e1 := cutS_take bs (k := spt.toNat)
        have e2 := cutS_drop bs (k := spt.toNat)
        rw [show ((spt.toNat : Nat) : Int) = spt by omega] at e1 e2
        refine ⟨_, rfl, line_of (by omega), line_of (by rw [one_len]; omega), _, rfl, line_of (by omega), line_of (by rw [len_add, one_len]; omega), ?_⟩
        refine ⟨_, rfl, rfl, fun _ => ⟨fun d hd => ?_, ?_, ?_⟩, fun h => absurd e h⟩
        · rw [cps_add, cps_add, e1, e2, one_cps] at hd
          rcases List.mem_append.mp hd with h | h
          · rcases List.mem_append.mp h with h | h
            · exact ha d (List.mem_of_mem_take h)
            · rw [List.mem_singleton.mp h]; exact hcm
          · exact ha d (List.mem_of_mem_drop h)
        · have hps1 : ps = spt.toNat := by rw [hps, if_pos e]
          rw [cps_add, cps_add, e1, e2, one_cps, hps1, List.append_assoc, List.getElem?_append_right (by rw [List.length_take]; omega), List.length_take, hbl, Nat.min_eq_left (by omega), Nat.sub_self]
          rfl
        · rw [len_add, len_add, ← len_cps (cutS bs none (some spt)), ← len_cps (cutS bs (some spt) none), e1, e2, one_len, List.length_take, List.length_drop]
          omega
      · have e : ¬ sty = 1 := of_decide_eq_false (Bool.eq_false_iff.mpr e)
        exact ⟨_, rfl, rfl, fun h => absurd h e, fun _ => rfl⟩
    rintro σ' H' ⟨w, rfl, rfl, g1, g2⟩
    refine ⟨fun σ' H' => ∃ w : Str, σ' = [some (.ref st), some (.int n), some (.str letters), some (.int sty), some (.int sh), some (.int code), some (.int spt), some (.str bs), some (.int i), some (.ref rv), some (.ref L), some (.str w)] ∧ H' = upd H6 L (.lst (zs.map V.str)) ∧ (sty ≠ 3 → Lt w ps ch) ∧ (sty = 3 → w = ⟨#[ch]⟩), ?_, ?_⟩
    · refine ite2 (fun e => ?_) (fun e => ?_)
      · have e : sty = 2 := of_decide_eq_true e
        have hw := g2 (by omega)
        subst hw
        have r2 := Int.emod_nonneg (3 * (i : Int) + spt) (by decide : (7 : Int) ≠ 0)
        have e1 := cutS_take bs (k := ((3 * (i : Int) + spt) % 7).toNat)
        rw [show ((((3 * (i : Int) + spt) % 7).toNat : Nat) : Int) = (3 * (i : Int) + spt) % 7 by omega] at e1
        have l1 := cutS_length bs none (some ((3 * (i : Int) + spt) % 7))
        refine ⟨.inl (.inl ⟨by decide, by decide⟩), by decide, _, rfl, line_of (by omega), line_of (by rw [one_len]; omega), ?_⟩
        refine ⟨_, rfl, rfl, fun _ => ⟨fun d hd => ?_, ?_, ?_⟩, fun h => absurd h (by omega)⟩
        · rw [cps_add, e1, one_cps] at hd
          rcases List.mem_append.mp hd with h | h
          · rw [List.mem_singleton.mp h]; exact hcm
          · exact ha d (List.mem_of_mem_take h)
        · have hps1 : ps = 0 := by rw [hps, if_neg (by omega), if_neg (by omega)]
          rw [cps_add, one_cps, hps1]
          rfl
        · rw [len_add, one_len]
          omega
      · have e : ¬ sty = 2 := of_decide_eq_false (Bool.eq_false_iff.mpr e)
        refine ⟨w, rfl, rfl, fun h3 => ?_, fun h3 => g2 (by omega)⟩
        by_cases h1 : sty = 1
        · exact g1 h1
        · have hw := g2 h1
          subst hw
          refine ⟨fun d hd => ?_, ?_, by rw [one_len]; decide⟩
          · rw [List.mem_singleton.mp hd]; exact hcm
          · have hps1 : ps = 0 := by rw [hps, if_neg h1, if_neg h3]
            rw [hps1]
            rfl
    rintro σ' H' ⟨w, rfl, rfl, g1, g2⟩
    refine ⟨fun σ' H' => ∃ w : Str, σ' = [some (.ref st), some (.int n), some (.str letters), some (.int sty), some (.int sh), some (.int code), some (.int spt), some (.str bs), some (.int i), some (.ref rv), some (.ref L), some (.str w)] ∧ H' = upd H6 L (.lst (zs.map V.str)) ∧ Lt w ps ch, ?_, ?_⟩
    · refine ite2 (fun e => ?_) (fun e => ?_)
      · have e : sty = 3 := of_decide_eq_true e
        have hw := g2 e
        subst hw
        have e1 := cutS_take bs (k := 5)
        have l1 := cutS_length bs none (some 5)
        refine ⟨_, rfl, line_of (by omega), line_of (by rw [one_len]; omega), line_of (by rw [len_add, one_len]; omega), ?_⟩
        refine ⟨_, rfl, rfl, fun d hd => ?_, ?_, ?_⟩
        · rw [cps_add, cps_add, show (cutS bs none (some (5 : Int))).cps.toList = bs.cps.toList.take 5 from e1, one_cps] at hd
          rcases List.mem_append.mp hd with h | h
          · rcases List.mem_append.mp h with h | h
            · exact ha d (List.mem_of_mem_take h)
            · rw [List.mem_singleton.mp h]; exact hcm
          · exact ha d h
        · have hps1 : ps = 5 := by rw [hps, if_neg (by omega), if_pos e]
          rw [cps_add, cps_add, show (cutS bs none (some (5 : Int))).cps.toList = bs.cps.toList.take 5 from e1, one_cps, hps1, List.append_assoc, List.getElem?_append_right (by rw [List.length_take]; omega), List.length_take, hbl]
          rfl
        · rw [len_add, len_add, ← len_cps (cutS bs none (some (5 : Int))), show (cutS bs none (some (5 : Int))).cps.toList = bs.cps.toList.take 5 from e1, one_len, List.length_take]
          omega
      · have e : ¬ sty = 3 := of_decide_eq_false (Bool.eq_false_iff.mpr e)
        exact ⟨w, rfl, rfl, g1 e⟩
    rintro σ' H' ⟨w, rfl, rfl, g1⟩
    refine ⟨fun σ' H' => ∃ w : Str, σ' = [some (.ref st), some (.int n), some (.str letters), some (.int sty), some (.int sh), some (.int code), some (.int spt), some (.str bs), some (.int i), some (.ref rv), some (.ref L), some (.str w)] ∧ H' = upd H6 L (.lst (zs.map V.str)) ∧ Lt w ps ch ∧ inV (.str w) resv = false, ?_, ?_⟩
    · refine ⟨_, .inl (SqL.of hrv3), rfl, rfl, ?_⟩
      refine ite2 (fun e => ?_) (fun e => ?_)
      · have e : inV (.str w) resv = true := e
        obtain ⟨z1, z2⟩ := resv_z e
        exact ⟨line_of (by show w.length + 1 ≤ _; omega), _, rfl, rfl, g1.z z2, z1⟩
      · exact ⟨w, rfl, rfl, g1, Bool.eq_false_iff.mpr e⟩
    rintro σ' H' ⟨w, rfl, rfl, g1, gr⟩
    refine ⟨.inl ⟨rfl, _, SqL.of upd_same⟩, L, _, _, rfl, rfl, upd_same, line_lt (by rw [List.length_map]; omega), ?_⟩
    refine ⟨_, _, zs ++ [w], rfl, ?_, by rw [List.length_append, hzl]; rfl, fun j z hj => ?_⟩
    · rw [upd_upd, List.map_append]
      rfl
    · by_cases h : j < zs.length
      · rw [List.getElem?_append_left h] at hj
        exact hzs j z hj
      · rw [List.getElem?_append_right (by omega)] at hj
        have hj0 : j - zs.length = 0 := by
          have := (List.getElem?_eq_some_iff.mp hj).1
          rw [List.length_singleton] at this
          omega
        rw [hj0] at hj
        cases hj
        rw [show j = i by omega, hcc]
        exact ⟨g1, gr⟩
  · rintro σ' H' ⟨y, z, zs, rfl, rfl, hzl, hzs⟩
    refine q _ L zs ?_ (hd6.at Ls Lc) L0 upd_same (by omega) (fun z hz => ?_) ?_
    · intro b o nb hb
      rw [upd_ne (ne_of_none hb L0)]
      exact b6 b o nb hb
    · obtain ⟨j, hj, e⟩ := List.getElem_of_mem hz
      obtain ⟨h1, h2⟩ := hzs j z (by rw [List.getElem?_eq_getElem hj, e])
      exact ⟨h1.name h2, h1.2.2⟩
    · show List.Pairwise (· ≠ ·) zs
      rw [List.pairwise_iff_getElem]
      intro i j hi hj hij e
      have ej : zs[j]? = some zs[j] := List.getElem?_eq_getElem hj
      have ei : zs[i]? = some zs[j] := by rw [← e]; exact List.getElem?_eq_getElem hi
      obtain ⟨h1, _⟩ := hzs i _ ei
      obtain ⟨h2, _⟩ := hzs j _ ej
      have := h1.2.1.symm.trans h2.2.1
      have := Option.some.inj this
      omega
end
section
variable {P : Program} {w : World} {K : PySem.W.Frag} {mg : Str → Option Value} {base : Heap}
variable {a_LockTable : Addr}
/-! ### _law_same -/
def sp__law_is_int (K : PySem.W.Frag) : Sp := fun vs H Q _ => ∃ i : Int, vs = [.int i] ∧ Q (.bl true) H
theorem len__law_is_int {vs : List V} {H : Hp} {Q : VK} {E : XK} (h : sp__law_is_int K vs H Q E) : vs.length = 1 := by
  obtain ⟨_, rfl, _⟩ := h
  rfl
theorem ok__law_is_int {f : Addr} {fd : FuncData} (F : Fun K "_law_is_int" "_law_is_int" s__law_is_int f fd) (T : Gs K mg a_LockTable) : FnOk P w K mg base CX0 1 f fd ["_law_thing"] (sp__law_is_int K) := by
  refine F.ok sc__law_is_int (fun vs H Q E h => len__law_is_int h) (fun cdv A outer s H vs Q E hr h => ?_)
  obtain ⟨i, rfl, q⟩ := h
  refine ⟨_, (pss_one (ps_ret (pe_andM (pe_callB (isiK K) (by rfl) T.z_isinstance (by decide +kernel) (pa_cons (v_ 0) (pa_cons (pe_bltn (v := .ty "int") (u := .type "int") (by rfl) T.z_int (by decide +kernel) rfl) pa_nil))) (pe_one (pe_notM (pe_callB (isiK K) (by rfl) T.z_isinstance (by decide +kernel) (pa_cons (v_ 0) (pa_cons (pe_bltn (v := .ty "bool") (u := .type "bool") (by rfl) T.z_bool (by decide +kernel) rfl) pa_nil)))))))), ?_⟩
  refine ⟨_, _, _, _, true, rfl, .ty _, .base (.int i), kit_ty (by decide +kernel), ?_⟩
  exact ⟨_, _, _, _, false, rfl, .ty _, .base (.int i), kit_ty (by decide +kernel), q⟩
def Fl (x : V) : Prop := (∃ i : Int, x = .int i) ∨ (∃ z : Str, x = .str z) ∨ (∃ b : Bool, x = .bl b) ∨ x = .non
def SameV (K : PySem.W.Frag) (H : Hp) : Nat → V → V → Prop
  | 0, _, _ => False
  | n + 1, x, y => (x = y ∧ Fl y) ∨ (∃ (p q : Addr) (xs ys : List V), x = .ref p ∧ y = .ref q ∧ SqT K H p xs ∧ SqT K H q ys ∧ xs.length = ys.length ∧ ys.length ≤ 1000 ∧ ∀ (i : Nat) (a b : V), xs[i]? = some a → ys[i]? = some b → SameV K H n a b) ∨
      (∃ (p q : Addr) (xs ys : List V), x = .ref p ∧ y = .ref q ∧ H p = some (.lst xs) ∧ H q = some (.lst ys) ∧ xs.length = ys.length ∧ ys.length ≤ 1000 ∧ ∀ (i : Nat) (a b : V), xs[i]? = some a → ys[i]? = some b → SameV K H n a b) ∨
      ∃ (p q : Addr) (ks ls : List (Key × V)), x = .ref p ∧ y = .ref q ∧ H p = some (.dK ks) ∧ H q = some (.dK ls) ∧ ks.length = ls.length ∧ n ≠ 0 ∧ ∀ (i : Nat) (k : Key) (v : V), ls[i]? = some (k, v) → ∃ u : V, Fl u ∧ valV ls k = some u ∧ valV ks k = some u
theorem same_fl {H : Hp} {n : Nat} {x : V} (h : Fl x) : SameV K H (n + 1) x x := .inl ⟨rfl, h⟩
def spSame (n : Nat) : PySem.W.Frag → Sp := fun K vs H Q _ => ∃ x y : V, vs = [x, y] ∧ SameV K H n x y ∧ Q (.bl true) H
theorem len_same {n : Nat} {vs : List V} {H : Hp} {Q : VK} {E : XK} (h : spSame n K vs H Q E) : vs.length = 2 := by
  obtain ⟨_, _, rfl, _⟩ := h
  rfl
theorem same_step {n k : Nat} {f : Addr} {fd : FuncData} {f__law_is_int : Addr} {fd__law_is_int : FuncData} (F : Fun K "_law_same" "_law_same" s__law_same f fd) (T : Gs K mg a_LockTable)
    (c__law_is_int : Cal P w K mg base CX0 1 "_law_is_int" f__law_is_int fd__law_is_int ["_law_thing"] (sp__law_is_int K)) (c__law_same : Cal P w K mg base CX0 k "_law_same" f fd ["_law_actual", "_law_due"] (spSame n K)) (hk : 1 ≤ k) : FnOk P w K mg base CX0 (k + 1) f fd ["_law_actual", "_law_due"] (spSame (n + 1) K) := by
  refine F.ok sc__law_same (fun vs H Q E h => len_same h) (fun cdv A outer s H vs Q E hr h => ?_)
  obtain ⟨x, y, rfl, h, q⟩ := h
  refine ⟨_, (pss_cons (ps_if (pt_c op_isM (v_ 1) pe_non) (pss_one (ps_ret (pe_c op_isM (v_ 0) pe_non))) pss_nil) (pss_cons (ps_if (pt_c op_isM (v_ 1) pe_bl) (pss_one (ps_ret (pe_c op_isM (v_ 0) pe_bl))) pss_nil) (pss_cons (ps_if (pt_c op_isM (v_ 1) pe_bl) (pss_one (ps_ret (pe_c op_isM (v_ 0) pe_bl))) pss_nil) (pss_cons (ps_if (pt_t K (pe_callB (isiK K) (by rfl) T.z_isinstance (by decide +kernel) (pa_cons (v_ 1) (pa_cons (pe_bltn (v := .ty "int") (u := .type "int") (by rfl) T.z_int (by decide +kernel) rfl) pa_nil)))) (pss_one (ps_ret (pe_andM (pe_call c__law_is_int.G (hr.mono (by first | decide | omega)) rfl c__law_is_int.m c__law_is_int.kp c__law_is_int.b .nil pass0 (pa_cons (v_ 0) pa_nil)) (pe_one (pe_c (eqK K hr.units) (v_ 0) (v_ 1)))))) pss_nil) (pss_cons (ps_if (pt_t K (pe_callB (isiK K) (by rfl) T.z_isinstance (by decide +kernel) (pa_cons (v_ 1) (pa_cons (pe_bltn (v := .ty "str") (u := .type "str") (by rfl) T.z_str (by decide +kernel) rfl) pa_nil)))) (pss_one (ps_ret (pe_andM (pe_callB (isiK K) (by rfl) T.z_isinstance (by decide +kernel) (pa_cons (v_ 0) (pa_cons (pe_bltn (v := .ty "str") (u := .type "str") (by rfl) T.z_str (by decide +kernel) rfl) pa_nil))) (pe_one (pe_c (eqK K hr.units) (v_ 0) (v_ 1)))))) pss_nil) (pss_cons (ps_if (pt_t K (pe_callB (isiK K) (by rfl) T.z_isinstance (by decide +kernel) (pa_cons (v_ 1) (pa_cons (pe_bltn (v := .ty "dict") (u := .type "dict") (by rfl) T.z_dict (by decide +kernel) rfl) pa_nil)))) (pss_cons (ps_if (PW.pt (pw_or (pt_not (pt_t K (pe_callB (isiK K) (by rfl) T.z_isinstance (by decide +kernel) (pa_cons (v_ 0) (pa_cons (pe_bltn (v := .ty "dict") (u := .type "dict") (by rfl) T.z_dict (by decide +kernel) rfl) pa_nil))))) (pw_or1 (pt_c (neK K hr.units) (pe_callB (lenK K) (by rfl) T.z_len PySem.boot_len (pa_cons (v_ 0) pa_nil)) (pe_callB (lenK K) (by rfl) T.z_len PySem.boot_len (pa_cons (v_ 1) pa_nil)))))) (pss_one (ps_ret pe_bl)) pss_nil) (pss_cons (ps_lock (ps_for PassesOwn.never rfl (pi_keys (v_ 1)) (pg_name (i := 3) sc__law_same.nd rfl (.inl rfl)) (pss_one (ps_if (PW.pt (pw_or (pt_cmp (pc_dnotin (hu_of hr) (v_ 3) (v_ 0))) (pw_or1 (pt_not (pt_t K (pe_call c__law_same.G (hr.mono (by first | decide | omega)) rfl c__law_same.m c__law_same.kp c__law_same.b .nil pass0 (pa_cons (pe_dget (hu_of hr) (v_ 0) (v_ 3) (fun _ _ => rfl)) (pa_cons (pe_dget (hu_of hr) (v_ 1) (v_ 3) (fun _ _ => rfl)) pa_nil)))))))) (pss_one (ps_ret pe_bl)) pss_nil)))) (pss_one (ps_ret pe_bl)))) pss_nil) (pss_cons (ps_if (PW.pt (pw_and (pt_t K (pe_callB (isiK K) (by rfl) T.z_isinstance (by decide +kernel) (pa_cons (v_ 1) (pa_cons (pe_bltn (v := .ty "list") (u := .type "list") (by rfl) T.z_list (by decide +kernel) rfl) pa_nil)))) (pw_and1 (pt_not (pt_t K (pe_callB (isiK K) (by rfl) T.z_isinstance (by decide +kernel) (pa_cons (v_ 0) (pa_cons (pe_bltn (v := .ty "list") (u := .type "list") (by rfl) T.z_list (by decide +kernel) rfl) pa_nil)))))))) (pss_one (ps_ret pe_bl)) pss_nil) (pss_cons (ps_if (PW.pt (pw_and (pt_t K (pe_callB (isiK K) (by rfl) T.z_isinstance (by decide +kernel) (pa_cons (v_ 1) (pa_cons (pe_bltn (v := .ty "tuple") (u := .type "tuple") (by rfl) T.z_tuple (by decide +kernel) rfl) pa_nil)))) (pw_and1 (pt_not (pt_t K (pe_callB (isiK K) (by rfl) T.z_isinstance (by decide +kernel) (pa_cons (v_ 0) (pa_cons (pe_bltn (v := .ty "tuple") (u := .type "tuple") (by rfl) T.z_tuple (by decide +kernel) rfl) pa_nil)))))))) (pss_one (ps_ret pe_bl)) pss_nil) (pss_cons (ps_if (pt_c (neK K hr.units) (pe_callB (lenK K) (by rfl) T.z_len PySem.boot_len (pa_cons (v_ 0) pa_nil)) (pe_callB (lenK K) (by rfl) T.z_len PySem.boot_len (pa_cons (v_ 1) pa_nil))) (pss_one (ps_ret pe_bl)) pss_nil) (pss_cons (ps_for PassesOwn.never rfl (pi_range1 rfl T.z_range (pa_cons (pe_callB (lenK K) (by rfl) T.z_len PySem.boot_len (pa_cons (v_ 1) pa_nil)) pa_nil)) (pg_name (i := 2) sc__law_same.nd rfl (.inl rfl)) (pss_one (ps_if (pt_not (pt_t K (pe_call c__law_same.G (hr.mono (by first | decide | omega)) rfl c__law_same.m c__law_same.kp c__law_same.b .nil pass0 (pa_cons (e_x K (v_ 0) (v_ 2)) (pa_cons (e_x K (v_ 1) (v_ 2)) pa_nil))))) (pss_one (ps_ret pe_bl)) pss_nil))) (pss_one (ps_ret pe_bl)))))))))))), ?_⟩
  rcases h with ⟨rfl, ⟨i, rfl⟩ | ⟨z, rfl⟩ | ⟨c, rfl⟩ | rfl⟩ | ⟨a, b, xs, ys, rfl, rfl, ha, hb, hl, h1, hs⟩ | ⟨a, b, xs, ys, rfl, rfl, ha, hb, hl, h1, hs⟩ | ⟨a, b, ks, ls, rfl, rfl, ha, hb, hl, hn, hs⟩
  · refine ⟨_, _, _, _, true, rfl, .ty _, .base (.int i), kit_ty (by decide +kernel), ?_⟩
    refine ⟨i, rfl, ?_⟩
    have e : decide (i = i) = true := decide_eq_true rfl
    rw [← e] at q
    exact q
  · refine ⟨_, _, _, _, false, rfl, .ty _, .base (.str z), kit_ty (by decide +kernel), ?_⟩
    refine ⟨_, _, _, _, true, rfl, .ty _, .base (.str z), kit_ty (by decide +kernel), ?_⟩
    refine ⟨_, _, _, _, true, rfl, .ty _, .base (.str z), kit_ty (by decide +kernel), ?_⟩
    have e : decide (z = z) = true := decide_eq_true rfl
    rw [← e] at q
    exact q
  · cases c with
    | true => exact q
    | false => exact q
  · exact q
  · have tb := ty_tup hb
    refine ⟨_, _, _, _, false, rfl, .ty _, tb, kit_ty (by decide +kernel), ?_⟩
    refine ⟨_, _, _, _, false, rfl, .ty _, tb, kit_ty (by decide +kernel), ?_⟩
    refine ⟨_, _, _, _, false, rfl, .ty _, tb, kit_ty (by decide +kernel), ?_⟩
    refine ⟨_, _, _, _, false, rfl, .ty _, tb, kit_ty (by decide +kernel), ?_⟩
    refine ⟨_, _, _, _, true, rfl, .ty _, tb, kit_ty (by decide +kernel), ?_⟩
    refine ⟨_, _, _, _, true, rfl, .ty _, ty_tup ha, kit_ty (by decide +kernel), ?_⟩
    refine .inl ⟨_, .inr ha, .inl ⟨_, .inr hb, ?_⟩⟩
    refine ite2 (fun e => ?_) (fun _ => ?_)
    · exact absurd e (by rw [hl]; simp)
    refine .inl ⟨_, .inr hb, _, rfl, by omega, by omega, ?_⟩
    refine for_range (lo := 0) (n := ys.length) (fun i σ' H' => H' = H ∧ ∃ y, σ' = [some (.ref a), some (.ref b), y, none]) ⟨rfl, _, rfl⟩ ?_ ?_
    · rintro i σ' H' hi ⟨rfl, y, rfl⟩
      have ex := List.getElem?_eq_getElem (l := xs) (i := i) (by omega)
      have ey := List.getElem?_eq_getElem (l := ys) hi
      refine ⟨_, .inr ha, xs[i], ?_, _, .inr hb, ys[i], ?_, _, _, rfl, hs i _ _ ex ey, ?_⟩
      · rw [show (0 : Int) + i = ((i : Nat) : Int) by omega]
        exact atI_nat ex
      · rw [show (0 : Int) + i = ((i : Nat) : Int) by omega]
        exact atI_nat ey
      exact ⟨rfl, _, rfl⟩
    · rintro σ' H' ⟨rfl, y, rfl⟩
      exact q
  · have tb : TyX K H (.ref b) (.type "list") := .base (.lst hb)
    refine ⟨_, _, _, _, false, rfl, .ty _, tb, kit_ty (by decide +kernel), ?_⟩
    refine ⟨_, _, _, _, false, rfl, .ty _, tb, kit_ty (by decide +kernel), ?_⟩
    refine ⟨_, _, _, _, false, rfl, .ty _, tb, kit_ty (by decide +kernel), ?_⟩
    refine ⟨_, _, _, _, true, rfl, .ty _, tb, kit_ty (by decide +kernel), ?_⟩
    refine ⟨_, _, _, _, true, rfl, .ty _, .base (.lst ha), kit_ty (by decide +kernel), ?_⟩
    refine ⟨_, _, _, _, false, rfl, .ty _, tb, kit_ty (by decide +kernel), ?_⟩
    refine .inl ⟨_, .inl (SqL.of ha), .inl ⟨_, .inl (SqL.of hb), ?_⟩⟩
    refine ite2 (fun e => ?_) (fun _ => ?_)
    · exact absurd e (by rw [hl]; simp)
    refine .inl ⟨_, .inl (SqL.of hb), _, rfl, by omega, by omega, ?_⟩
    refine for_range (lo := 0) (n := ys.length) (fun i σ' H' => H' = H ∧ ∃ y, σ' = [some (.ref a), some (.ref b), y, none]) ⟨rfl, _, rfl⟩ ?_ ?_
    · rintro i σ' H' hi ⟨rfl, y, rfl⟩
      have ex := List.getElem?_eq_getElem (l := xs) (i := i) (by omega)
      have ey := List.getElem?_eq_getElem (l := ys) hi
      refine ⟨_, .inl (SqL.of ha), xs[i], ?_, _, .inl (SqL.of hb), ys[i], ?_, _, _, rfl, hs i _ _ ex ey, ?_⟩
      · rw [show (0 : Int) + i = ((i : Nat) : Int) by omega]
        exact atI_nat ex
      · rw [show (0 : Int) + i = ((i : Nat) : Int) by omega]
        exact atI_nat ey
      exact ⟨rfl, _, rfl⟩
    · rintro σ' H' ⟨rfl, y, rfl⟩
      exact q
  · have tb : TyX K H (.ref b) (.type "dict") := .base (.dK hb)
    refine ⟨_, _, _, _, false, rfl, .ty _, tb, kit_ty (by decide +kernel), ?_⟩
    refine ⟨_, _, _, _, false, rfl, .ty _, tb, kit_ty (by decide +kernel), ?_⟩
    refine ⟨_, _, _, _, true, rfl, .ty _, tb, kit_ty (by decide +kernel), ?_⟩
    refine ⟨_, _, _, _, true, rfl, .ty _, .base (.dK ha), kit_ty (by decide +kernel), ?_⟩
    refine .inr ⟨_, ha, .inr ⟨_, hb, ?_⟩⟩
    refine ite2 (fun e => absurd e (by rw [hl]; simp)) (fun _ => ?_)
    refine ⟨b, .dK ls, hb, True.intro, fun od => ?_⟩
    refine ⟨b, od, rfl, .inl ⟨ls, upd_same, ?_⟩⟩
    have rb : Rd (upd H b (.frz od (.dK ls))) b (.dK ls) := .inr ⟨od, upd_same⟩
    have ra : ∃ ks', ks' = ks ∧ Rd (upd H b (.frz od (.dK ls))) a (.dK ks') := by
      by_cases e : a = b
      · rw [e, hb] at ha
        cases ha
        exact ⟨_, rfl, e ▸ rb⟩
      · exact ⟨ks, rfl, .inl (by rw [upd_ne e]; exact ha)⟩
    obtain ⟨_, rfl, ra⟩ := ra
    refine for_it walk_keys (fun i σ' H' => H' = upd H b (.frz od (.dK ls)) ∧ ∃ y, σ' = [some (.ref a), some (.ref b), none, y]) ⟨rfl, _, rfl⟩ (fun i σ' H' _ h => by rw [h.1]; exact upd_same) ?_ ?_
    · rintro i x σ' H2 H3 hi ⟨rfl, y, rfl⟩ ⟨rfl, k, v, hk, rfl⟩
      obtain ⟨m, hm, h1, h2⟩ := hs i k v hk
      have ga : DGet (upd H b (.frz od (.dK ls))) a (kV k) (some m) := .inl ⟨_, k, ra, rfl, h2.symm⟩
      have gb : DGet (upd H b (.frz od (.dK ls))) b (kV k) (some m) := .inl ⟨_, k, rb, rfl, h1.symm⟩
      refine ⟨a, _, rfl, ga, _, rfl, ?_⟩
      refine ⟨a, _, rfl, ga, b, _, rfl, gb, _, _, rfl, ?_, ?_⟩
      · cases n with
        | zero => exact absurd rfl hn
        | succ n => exact same_fl hm
      · exact ⟨rfl, _, rfl⟩
    · rintro σ' H2 ⟨rfl, y, rfl⟩
      refine ⟨upd_same, ?_⟩
      rw [upd_upd, upd_id hb]
      exact q
theorem same_all {f : Addr} {fd : FuncData} {f__law_is_int : Addr} {fd__law_is_int : FuncData} (F : Fun K "_law_same" "_law_same" s__law_same f fd) (T : Gs K mg a_LockTable)
    (c__law_is_int : Cal P w K mg base CX0 1 "_law_is_int" f__law_is_int fd__law_is_int ["_law_thing"] (sp__law_is_int K)) (b : Binds K fd ["_law_actual", "_law_due"] []) (kp : PySem.W.keepIn K (.ref f) = true) (m : mg "_law_same" = some (.ref f)) :
    ∀ n : Nat, FnOk P w K mg base CX0 (n + 2) f fd ["_law_actual", "_law_due"] (spSame n K)
  | 0 => ⟨fun _ _ _ _ h => len_same h, by
    intro A outer s H args us vs Q E _ _ _ _ h
    obtain ⟨_, _, _, h, _⟩ := h
    exact False.elim h⟩
  | n + 1 => same_step F T c__law_is_int ⟨same_all F T c__law_is_int b kp m n, b, kp, m⟩ (by omega)
def sp__law_same : PySem.W.Frag → Sp := spSame 24
theorem ok__law_same {f : Addr} {fd : FuncData} {f__law_is_int : Addr} {fd__law_is_int : FuncData} (F : Fun K "_law_same" "_law_same" s__law_same f fd) (T : Gs K mg a_LockTable)
    (c__law_is_int : Cal P w K mg base CX0 1 "_law_is_int" f__law_is_int fd__law_is_int ["_law_thing"] (sp__law_is_int K)) (b : Binds K fd ["_law_actual", "_law_due"] []) (kp : PySem.W.keepIn K (.ref f) = true) (m : mg "_law_same" = some (.ref f)) :
    FnOk P w K mg base CX0 26 f fd ["_law_actual", "_law_due"] (sp__law_same K) := same_all F T c__law_is_int b kp m 24
theorem same_int {H : Hp} {n : Nat} (i : Int) : SameV K H (n + 1) (.int i) (.int i) := same_fl (.inl ⟨i, rfl⟩)
theorem same_str {H : Hp} {n : Nat} (z : Str) : SameV K H (n + 1) (.str z) (.str z) := same_fl (.inr (.inl ⟨z, rfl⟩))
theorem same_bl {H : Hp} {n : Nat} (b : Bool) : SameV K H (n + 1) (.bl b) (.bl b) := same_fl (.inr (.inr (.inl ⟨b, rfl⟩)))
theorem same_tupN {H : Hp} {t u : Addr} {xs ys : List V} {n : Nat} (h1 : SqT K H t xs) (h2 : SqT K H u ys) (hl : xs.length = ys.length) (h4 : ys.length ≤ 1000) (h : ∀ (i : Nat) (a b : V), xs[i]? = some a → ys[i]? = some b → SameV K H n a b) : SameV K H (n + 1) (.ref t) (.ref u) :=
  .inr (.inl ⟨t, u, _, _, rfl, rfl, h1, h2, hl, h4, h⟩)
theorem same_two {H : Hp} {t u : Addr} {w : Str} {x y : V} {m : Nat} (h1 : SqT K H t [.str w, x]) (h2 : SqT K H u [.str w, y]) (h : SameV K H (m + 1) x y) : SameV K H (m + 2) (.ref t) (.ref u) := by
  refine same_tupN h1 h2 rfl (by show 2 ≤ 1000; decide) fun i a b ha hb => ?_
  match i, ha, hb with
  | 0, ha, hb => cases ha; cases hb; exact same_str _
  | 1, ha, hb => cases ha; cases hb; exact h
theorem same_strs {H : Hp} {t u : Addr} {zs : List Str} {n : Nat} (h1 : SqT K H t (zs.map V.str)) (h2 : SqT K H u (zs.map V.str)) (hl : zs.length ≤ 1000) : SameV K H (n + 2) (.ref t) (.ref u) := by
  refine same_tupN h1 h2 rfl (by rw [List.length_map]; exact hl) fun i a b ha hb => ?_
  rw [ha] at hb
  cases hb
  rw [List.getElem?_map] at ha
  obtain ⟨z, hz, rfl⟩ := Option.map_eq_some_iff.mp ha
  exact same_str z
end
section
variable {P : Program} {w : World} {K : PySem.W.Frag} {mg : Str → Option Value} {base : Heap}
variable {a_LockTable : Addr}
/-! ### locks: the mathematics -/
abbrev Plc := List Key
abbrev Lck := Plc × Int × Str
def atP (L : List Lck) (q : Plc) : List (Int × Str) := (L.filter fun l => decide (l.1 = q)).map (·.2)
def heldW (L : List Lck) (w : Int) : List Plc := (L.filter fun l => decide (l.2.1 = w)).map (·.1)
/-- no lock twice -/
def LOk (L : List Lck) : Prop := (L.map fun l => (l.1, l.2.1)).Nodup
theorem LOk.at {L : List Lck} (h : LOk L) (q : Plc) : ((atP L q).map (·.1)).Nodup := by
  unfold atP
  rw [List.map_map]
  have h1 : ((L.filter fun l => decide (l.1 = q)).map fun l => (l.1, l.2.1)).Nodup := h.sublist (List.filter_sublist.map _)
  have e : ((L.filter fun l => decide (l.1 = q)).map fun l => (l.1, l.2.1)) = ((L.filter fun l => decide (l.1 = q)).map ((·.1) ∘ (·.2))).map fun w => (q, w) := by
    rw [List.map_map]
    refine List.map_congr_left fun l hl => ?_
    have := of_decide_eq_true (List.mem_filter.mp hl).2
    show (l.1, l.2.1) = (q, l.2.1)
    rw [this]
  rw [e] at h1
  exact List.Pairwise.of_map (fun x => (q, x)) (fun a b n e => n (congrArg (fun x => (q, x)) e)) h1
theorem LOk.held {L : List Lck} (h : LOk L) (w : Int) : (heldW L w).Nodup := by
  unfold heldW
  have h1 : ((L.filter fun l => decide (l.2.1 = w)).map fun l => (l.1, l.2.1)).Nodup := h.sublist (List.filter_sublist.map _)
  have e : ((L.filter fun l => decide (l.2.1 = w)).map fun l => (l.1, l.2.1)) = ((L.filter fun l => decide (l.2.1 = w)).map (·.1)).map fun q => (q, w) := by
    rw [List.map_map]
    refine List.map_congr_left fun l hl => ?_
    have := of_decide_eq_true (List.mem_filter.mp hl).2
    show (l.1, l.2.1) = (l.1, w)
    rw [this]
  rw [e] at h1
  exact List.Pairwise.of_map (fun x => (x, w)) (fun a b n e => n (congrArg (fun x => (x, w)) e)) h1
theorem mem_held {L : List Lck} {q : Plc} {w : Int} : q ∈ heldW L w ↔ ∃ m, (q, w, m) ∈ L := by
  unfold heldW
  rw [List.mem_map]
  constructor
  · rintro ⟨⟨a, b, m⟩, h, rfl⟩
    obtain ⟨h1, h2⟩ := List.mem_filter.mp h
    have h2 : b = w := of_decide_eq_true h2
    subst h2
    exact ⟨m, h1⟩
  · rintro ⟨m, h⟩
    exact ⟨(q, w, m), List.mem_filter.mpr ⟨h, decide_eq_true rfl⟩, rfl⟩
theorem mem_at {L : List Lck} {q : Plc} {w : Int} {m : Str} : (w, m) ∈ atP L q ↔ (q, w, m) ∈ L := by
  unfold atP
  rw [List.mem_map]
  constructor
  · rintro ⟨⟨a, b, n⟩, h, e⟩
    obtain ⟨h1, h2⟩ := List.mem_filter.mp h
    cases e
    have h3 : a = q := of_decide_eq_true h2
    subst h3
    exact h1
  · intro h
    exact ⟨(q, w, m), List.mem_filter.mpr ⟨h, decide_eq_true rfl⟩, rfl⟩
theorem at_len {L : List Lck} {q : Plc} : (atP L q).length ≤ L.length := by
  unfold atP
  rw [List.length_map]
  exact List.length_filter_le _ _
theorem held_len {L : List Lck} {w : Int} : (heldW L w).length ≤ L.length := by
  unfold heldW
  rw [List.length_map]
  exact List.length_filter_le _ _
/-- the holders of a place by ascending writer -/
def holdersOf (L : List Lck) (q : Plc) : List (Int × Str) := (atP L q).mergeSort fun a b => decide (a.1 ≤ b.1)
theorem holders_perm {L : List Lck} {q : Plc} : (holdersOf L q).Perm (atP L q) := List.mergeSort_perm _ _
theorem holders_len {L : List Lck} {q : Plc} : (holdersOf L q).length ≤ L.length := by
  rw [holders_perm.length_eq]
  exact at_len
def blocks (w : Int) (m : Str) (p : Int × Str) : Bool := !decide (p.1 = w) && (decide (m = ("hold" : Str)) || decide (p.2 = ("hold" : Str)))
def blockersOf (L : List Lck) (q : Plc) (w : Int) (m : Str) : List Int := ((holdersOf L q).filter (blocks w m)).map (·.1)
/-- the mode of a lock that is taken again -/
def modeUp (old m : Str) : Str := if old = ("hold" : Str) then old else m
def takeL (L : List Lck) (q : Plc) (w : Int) (m : Str) : List Lck := if q ∈ heldW L w then L.map fun l => if l.1 = q ∧ l.2.1 = w then (l.1, l.2.1, modeUp l.2.2 m) else l else L ++ [(q, w, m)]
def freeL (L : List Lck) (q : Plc) (w : Int) : List Lck := L.filter fun l => !(decide (l.1 = q) && decide (l.2.1 = w))
theorem free_ok {L : List Lck} (h : LOk L) (q : Plc) (w : Int) : LOk (freeL L q w) := h.sublist (List.filter_sublist.map _)
theorem take_ok {L : List Lck} (h : LOk L) (q : Plc) (w : Int) (m : Str) : LOk (takeL L q w m) := by
  unfold takeL LOk
  by_cases hm : q ∈ heldW L w
  · rw [if_pos hm, List.map_map]
    have e : L.map ((fun l : Lck => (l.1, l.2.1)) ∘ fun l => if l.1 = q ∧ l.2.1 = w then (l.1, l.2.1, modeUp l.2.2 m) else l) = L.map fun l => (l.1, l.2.1) := List.map_congr_left fun l _ => by
      show ((if l.1 = q ∧ l.2.1 = w then (l.1, l.2.1, modeUp l.2.2 m) else l).1, (if l.1 = q ∧ l.2.1 = w then (l.1, l.2.1, modeUp l.2.2 m) else l).2.1) = _
      by_cases c : l.1 = q ∧ l.2.1 = w
      · rw [if_pos c]
      · rw [if_neg c]
    rw [e]
    exact h
  · rw [if_neg hm, List.map_append]
    refine List.nodup_append.mpr ⟨h, by simp, fun a ha b hb e => ?_⟩
    rw [List.map_singleton, List.mem_singleton] at hb
    obtain ⟨l, hl, rfl⟩ := List.mem_map.mp ha
    rw [hb] at e
    obtain ⟨l1, l2, l3⟩ := l
    cases e
    exact hm (mem_held.mpr ⟨l3, hl⟩)
/-! what the deeds make of the holders of a place and of the places of a writer -/
theorem at_take {L : List Lck} {q : Plc} {w : Int} {m : Str} (r : Plc) : atP (takeL L q w m) r = if r = q then (if q ∈ heldW L w then (atP L q).map fun p => if p.1 = w then (p.1, modeUp p.2 m) else p else atP L q ++ [(w, m)]) else atP L r := by
  unfold takeL
  by_cases hm : q ∈ heldW L w
  · rw [if_pos hm, if_pos hm]
    have pass : ∀ l : Lck, decide ((if l.1 = q ∧ l.2.1 = w then (l.1, l.2.1, modeUp l.2.2 m) else l).1 = r) = decide (l.1 = r) := fun l => by
      by_cases c : l.1 = q ∧ l.2.1 = w
      · rw [if_pos c]
      · rw [if_neg c]
    have e1 : atP (L.map fun l => if l.1 = q ∧ l.2.1 = w then (l.1, l.2.1, modeUp l.2.2 m) else l) r = (L.filter fun l => decide (l.1 = r)).map fun l => (if l.1 = q ∧ l.2.1 = w then (l.1, l.2.1, modeUp l.2.2 m) else l).2 := by
      unfold atP
      rw [List.filter_map, List.map_map]
      rw [show ((fun l : Lck => decide (l.1 = r)) ∘ fun l : Lck => if l.1 = q ∧ l.2.1 = w then (l.1, l.2.1, modeUp l.2.2 m) else l) = fun l : Lck => decide (l.1 = r) from funext pass]
      rfl
    rw [e1]
    by_cases er : r = q
    · subst er
      rw [if_pos rfl]
      unfold atP
      rw [List.map_map]
      refine List.map_congr_left fun l hl => ?_
      have h1 : l.1 = r := of_decide_eq_true (List.mem_filter.mp hl).2
      show (if l.1 = r ∧ l.2.1 = w then (l.1, l.2.1, modeUp l.2.2 m) else l).2 = if l.2.1 = w then (l.2.1, modeUp l.2.2 m) else l.2
      by_cases c : l.2.1 = w
      · rw [if_pos ⟨h1, c⟩, if_pos c]
      · rw [if_neg fun z => c z.2, if_neg c]
    · rw [if_neg er]
      unfold atP
      refine List.map_congr_left fun l hl => ?_
      have h1 : l.1 = r := of_decide_eq_true (List.mem_filter.mp hl).2
      rw [if_neg fun z => er (h1.symm.trans z.1)]
  · rw [if_neg hm, if_neg hm]
    unfold atP
    rw [List.filter_append, List.map_append]
    by_cases er : r = q
    · subst er
      rw [if_pos rfl, List.filter_cons_of_pos (by exact decide_eq_true rfl)]
      rfl
    · rw [if_neg er, List.filter_cons_of_neg (by simpa using fun z => er z.symm), List.filter_nil, List.map_nil, List.append_nil]
theorem held_take {L : List Lck} {q : Plc} {w : Int} {m : Str} (v : Int) : heldW (takeL L q w m) v = if v = w ∧ q ∉ heldW L w then heldW L w ++ [q] else heldW L v := by
  unfold takeL
  by_cases hm : q ∈ heldW L w
  · rw [if_pos hm, if_neg fun z => z.2 hm]
    have pass : ∀ l : Lck, decide ((if l.1 = q ∧ l.2.1 = w then (l.1, l.2.1, modeUp l.2.2 m) else l).2.1 = v) = decide (l.2.1 = v) := fun l => by
      by_cases c : l.1 = q ∧ l.2.1 = w
      · rw [if_pos c]
      · rw [if_neg c]
    unfold heldW
    rw [List.filter_map, List.map_map]
    rw [show ((fun l : Lck => decide (l.2.1 = v)) ∘ fun l : Lck => if l.1 = q ∧ l.2.1 = w then (l.1, l.2.1, modeUp l.2.2 m) else l) = fun l : Lck => decide (l.2.1 = v) from funext pass]
    refine List.map_congr_left fun l _ => ?_
    show (if l.1 = q ∧ l.2.1 = w then (l.1, l.2.1, modeUp l.2.2 m) else l).1 = l.1
    by_cases c : l.1 = q ∧ l.2.1 = w
    · rw [if_pos c]
    · rw [if_neg c]
  · rw [if_neg hm]
    unfold heldW at hm ⊢
    rw [List.filter_append, List.map_append]
    by_cases ev : v = w
    · subst ev
      rw [if_pos ⟨rfl, hm⟩, List.filter_cons_of_pos (by exact decide_eq_true rfl)]
      rfl
    · rw [if_neg fun z => ev z.1, List.filter_cons_of_neg (by simpa using fun z => ev z.symm), List.filter_nil, List.map_nil, List.append_nil]
theorem at_free {L : List Lck} {q : Plc} {w : Int} (r : Plc) : atP (freeL L q w) r = if r = q then (atP L q).filter (fun p => !decide (p.1 = w)) else atP L r := by
  unfold atP freeL
  rw [List.filter_filter]
  by_cases er : r = q
  · subst er
    rw [if_pos rfl, List.filter_map, List.filter_filter]
    congr 1
    refine List.filter_congr fun l _ => ?_
    show (decide (l.1 = r) && !(decide (l.1 = r) && decide (l.2.1 = w))) = (!decide (l.2.1 = w) && decide (l.1 = r))
    cases decide (l.1 = r) <;> cases decide (l.2.1 = w) <;> rfl
  · rw [if_neg er]
    congr 1
    refine List.filter_congr fun l _ => ?_
    by_cases c : l.1 = r
    · rw [decide_eq_true c, decide_eq_false fun z => er (c.symm.trans z)]
      rfl
    · rw [decide_eq_false c]
      rfl
theorem held_free {L : List Lck} {q : Plc} {w : Int} (v : Int) : heldW (freeL L q w) v = if v = w then (heldW L w).filter (fun r => !decide (r = q)) else heldW L v := by
  unfold heldW freeL
  rw [List.filter_filter]
  by_cases ev : v = w
  · subst ev
    rw [if_pos rfl, List.filter_map, List.filter_filter]
    congr 1
    refine List.filter_congr fun l _ => ?_
    show (decide (l.2.1 = v) && !(decide (l.1 = q) && decide (l.2.1 = v))) = (!decide (l.1 = q) && decide (l.2.1 = v))
    cases decide (l.1 = q) <;> cases decide (l.2.1 = v) <;> rfl
  · rw [if_neg ev]
    congr 1
    refine List.filter_congr fun l _ => ?_
    by_cases c : l.2.1 = v
    · rw [decide_eq_true c, decide_eq_false fun z => ev (c.symm.trans z), Bool.and_false]
      rfl
    · rw [decide_eq_false c]
      rfl
end
section
variable {P : Program} {w : World} {K : PySem.W.Frag} {mg : Str → Option Value} {base : Heap}
variable {a_LockTable : Addr}
/-! ### locks: the heap -/
def kvM (ps : List (Int × Str)) : List (Key × V) := ps.map fun p => (.inl p.1, .str p.2)
def kvP (qs : List Plc) : List (Plc × V) := qs.map fun q => (q, .bl true)
def getA {κ : Type} [DecidableEq κ] (M : List (κ × Addr)) (k : κ) : Option Addr := (M.find? fun e => decide (e.1 = k)).map (·.2)
def msM (M : List (Plc × Addr)) : List (Plc × V) := M.map fun e => (e.1, .ref e.2)
def psM (P : List (Int × Addr)) : List (Key × V) := P.map fun e => (.inl e.1, .ref e.2)
theorem inl_dec {i j : Int} : decide ((Sum.inl i : Key) = Sum.inl j) = decide (i = j) := by
  by_cases h : i = j
  · rw [h, decide_eq_true rfl, decide_eq_true rfl]
  · rw [decide_eq_false h, decide_eq_false fun e => h (Sum.inl.inj e)]
theorem val_ms {M : List (Plc × Addr)} {q : Plc} : valV (msM M) q = (getA M q).map V.ref := by
  unfold valV msM getA
  rw [List.find?_map, Option.map_map, Option.map_map]
  rfl
theorem val_ps {P : List (Int × Addr)} {w : Int} : valV (psM P) (.inl w) = (getA P w).map V.ref := by
  unfold valV psM getA
  rw [List.find?_map, Option.map_map, Option.map_map, show ((fun kv : Key × V => decide (kv.1 = Sum.inl w)) ∘ fun e : Int × Addr => ((Sum.inl e.1 : Key), V.ref e.2)) = fun e : Int × Addr => decide (e.1 = w) from funext fun e => inl_dec]
  rfl
theorem val_kvM {ps : List (Int × Str)} {w : Int} : valV (kvM ps) (.inl w) = (ps.find? fun p => decide (p.1 = w)).map fun p => V.str p.2 := by
  unfold valV kvM
  rw [List.find?_map, Option.map_map, show ((fun kv : Key × V => decide (kv.1 = Sum.inl w)) ∘ fun e : Int × Str => ((Sum.inl e.1 : Key), V.str e.2)) = fun e : Int × Str => decide (e.1 = w) from funext fun e => inl_dec]
  rfl
theorem val_kvP {qs : List Plc} {q : Plc} : valV (kvP qs) q = if q ∈ qs then some (.bl true) else none := by
  unfold kvP
  induction qs with
  | nil => rfl
  | cons a r ih =>
    rw [List.map_cons]
    by_cases h : a = q
    · rw [valV_pos (p := (a, V.bl true)) h, if_pos (by rw [h]; exact List.mem_cons_self)]
    · rw [valV_neg (p := (a, V.bl true)) h, ih]
      by_cases m : q ∈ r
      · rw [if_pos m, if_pos (List.mem_cons_of_mem _ m)]
      · rw [if_neg m, if_neg fun z => (List.mem_cons.mp z).elim (fun e => h e.symm) m]
theorem getA_mem {κ : Type} [DecidableEq κ] {M : List (κ × Addr)} {k : κ} {r : Addr} (h : getA M k = some r) : (k, r) ∈ M := by
  unfold getA at h
  obtain ⟨e, h1, rfl⟩ := Option.map_eq_some_iff.mp h
  have h2 := List.find?_some h1
  have h2 : e.1 = k := of_decide_eq_true h2
  rw [← h2]
  exact List.mem_of_find?_eq_some h1
theorem getA_none {κ : Type} [DecidableEq κ] {M : List (κ × Addr)} {k : κ} (h : getA M k = none) : k ∉ M.map (·.1) := fun m => by
  unfold getA at h
  rw [Option.map_eq_none_iff, List.find?_eq_none] at h
  obtain ⟨e, he, rfl⟩ := List.mem_map.mp m
  exact h e he (decide_eq_true rfl)
theorem getA_snoc {κ : Type} [DecidableEq κ] {M : List (κ × Addr)} {k : κ} {r : Addr} (h : getA M k = none) : getA (M ++ [(k, r)]) k = some r := by
  unfold getA at h ⊢
  rw [Option.map_eq_none_iff] at h
  rw [List.find?_append, h, List.find?_cons_of_pos (by exact decide_eq_true rfl)]
  rfl
theorem put_ms {M : List (Plc × Addr)} {q : Plc} {r : Addr} (h : getA M q = none) : putK (msM M) q (.ref r) = msM (M ++ [(q, r)]) := by
  rw [putK_new _ (by rw [val_ms, h]; rfl)]
  unfold msM
  rw [List.map_append]
  rfl
theorem put_ps {P : List (Int × Addr)} {w : Int} {r : Addr} (h : getA P w = none) : putK (psM P) (.inl w) (.ref r) = psM (P ++ [(w, r)]) := by
  rw [putK_new _ (by rw [val_ps, h]; rfl)]
  unfold psM
  rw [List.map_append]
  rfl
theorem put_kvM {ps : List (Int × Str)} {w : Int} {m : Str} : putK (kvM ps) (.inl w) (.str m) = if w ∈ ps.map (·.1) then kvM (ps.map fun p => if p.1 = w then (p.1, m) else p) else kvM (ps ++ [(w, m)]) := by
  by_cases h : w ∈ ps.map (·.1)
  · rw [if_pos h]
    unfold putK
    have : (kvM ps).any (fun kv => decide (kv.1 = Sum.inl w)) = true := by
      obtain ⟨p, hp, rfl⟩ := List.mem_map.mp h
      exact List.any_eq_true.mpr ⟨(.inl p.1, .str p.2), List.mem_map.mpr ⟨p, hp, rfl⟩, decide_eq_true rfl⟩
    rw [if_pos this]
    unfold kvM
    rw [List.map_map, List.map_map]
    refine List.map_congr_left fun p _ => ?_
    show (if (Sum.inl p.1 : Key) = Sum.inl w then ((Sum.inl p.1 : Key), V.str m) else (Sum.inl p.1, V.str p.2)) = ((Sum.inl (if p.1 = w then (p.1, m) else p).1 : Key), V.str (if p.1 = w then (p.1, m) else p).2)
    by_cases c : p.1 = w
    · rw [if_pos (congrArg _ c), if_pos c]
    · rw [if_neg fun e => c (Sum.inl.inj e), if_neg c]
  · rw [if_neg h, putK_new]
    · unfold kvM
      rw [List.map_append]
      rfl
    · rw [val_kvM]
      have : ps.find? (fun p => decide (p.1 = w)) = none := List.find?_eq_none.mpr fun p hp e => h (List.mem_map.mpr ⟨p, hp, of_decide_eq_true e⟩)
      rw [this]
      rfl
theorem put_kvP {qs : List Plc} {q : Plc} : putK (kvP qs) q (.bl true) = kvP (if q ∈ qs then qs else qs ++ [q]) := by
  by_cases h : q ∈ qs
  · rw [if_pos h]
    unfold putK
    have : (kvP qs).any (fun kv => decide (kv.1 = q)) = true := List.any_eq_true.mpr ⟨(q, .bl true), List.mem_map.mpr ⟨q, h, rfl⟩, decide_eq_true rfl⟩
    rw [if_pos this]
    unfold kvP
    rw [List.map_map]
    refine List.map_congr_left fun r _ => ?_
    show (if r = q then (r, V.bl true) else (r, V.bl true)) = _
    rw [ite_self]
  · rw [if_neg h, putK_new]
    · unfold kvP
      rw [List.map_append]
      rfl
    · rw [val_kvP, if_neg h]
theorem drop_kvM {ps : List (Int × Str)} {w : Int} : dropK (kvM ps) (.inl w) = kvM (ps.filter fun p => !decide (p.1 = w)) := by
  unfold dropK kvM
  rw [List.filter_map]
  congr 1
  refine List.filter_congr fun p _ => ?_
  show decide ((Sum.inl p.1 : Key) ≠ Sum.inl w) = _
  rw [← inl_dec, decide_not]
theorem drop_kvP {qs : List Plc} {q : Plc} : dropK (kvP qs) q = kvP (qs.filter fun r => !decide (r = q)) := by
  unfold dropK kvP
  rw [List.filter_map]
  congr 1
  refine List.filter_congr fun p _ => ?_
  show decide (p ≠ q) = _
  rw [decide_not]
/-- a lock table, whatever its dicts hold -/
structure LkG (K : PySem.W.Frag) (H : Hp) (a : Addr) (fM : Plc → List (Int × Str)) (fP : Int → List Plc) (m p : Addr) (M : List (Plc × Addr)) (P : List (Int × Addr)) : Prop where
  ins : ∃ C dx : Addr, PySem.W.nsIn K mainGlobals "LockTable" = some (some (.ref C)) ∧ H a = some (.ins C dx [("_modes", .ref m), ("_places", .ref p)])
  hm : H m = some (.dT (msM M))
  hp : H p = some (.dK (psM P))
  iM : ∀ q r, (q, r) ∈ M → H r = some (.dK (kvM (fM q)))
  iP : ∀ w r, (w, r) ∈ P → H r = some (.dT (kvP (fP w)))
  kM : (M.map (·.1)).Nodup
  kP : (P.map (·.1)).Nodup
  aM : (M.map (·.2)).Nodup
  aP : (P.map (·.2)).Nodup
  pM : p ∉ M.map (·.2)
  mP : m ∉ P.map (·.2)
  oM : ∀ q, q ∉ M.map (·.1) → fM q = []
  oP : ∀ w, w ∉ P.map (·.1) → fP w = []
def foot (m p : Addr) (M : List (Plc × Addr)) (P : List (Int × Addr)) : Addr → Prop := fun b => b = m ∨ b = p ∨ b ∈ M.map (·.2) ∨ b ∈ P.map (·.2)
theorem LkG.same {K : PySem.W.Frag} {H H' : Hp} {a : Addr} {fM : Plc → List (Int × Str)} {fP : Int → List Plc} {m p : Addr} {M : List (Plc × Addr)} {P : List (Int × Addr)} (g : LkG K H a fM fP m p M P) (k : ∀ b o, (b = a ∨ foot m p M P b) → H b = some o → H' b = some o) : LkG K H' a fM fP m p M P := by
  obtain ⟨C, dx, h1, h2⟩ := g.ins
  exact ⟨⟨C, dx, h1, k _ _ (.inl rfl) h2⟩, k _ _ (.inr (.inl rfl)) g.hm, k _ _ (.inr (.inr (.inl rfl))) g.hp, fun q r h => k _ _ (.inr (.inr (.inr (.inl (List.mem_map.mpr ⟨_, h, rfl⟩))))) (g.iM q r h), fun w r h => k _ _ (.inr (.inr (.inr (.inr (List.mem_map.mpr ⟨_, h, rfl⟩))))) (g.iP w r h), g.kM, g.kP, g.aM, g.aP, g.pM, g.mP, g.oM, g.oP⟩
theorem LkG.dict {K : PySem.W.Frag} {H : Hp} {a : Addr} {fM : Plc → List (Int × Str)} {fP : Int → List Plc} {m p : Addr} {M : List (Plc × Addr)} {P : List (Int × Addr)} (g : LkG K H a fM fP m p M P) {b : Addr} (h : foot m p M P b) : (∃ kv, H b = some (.dK kv)) ∨ ∃ kv, H b = some (.dT kv) := by
  rcases h with rfl | rfl | h | h
  · exact .inr ⟨_, g.hm⟩
  · exact .inl ⟨_, g.hp⟩
  · obtain ⟨⟨q, r⟩, h1, rfl⟩ := List.mem_map.mp h
    exact .inl ⟨_, g.iM q r h1⟩
  · obtain ⟨⟨w, r⟩, h1, rfl⟩ := List.mem_map.mp h
    exact .inr ⟨_, g.iP w r h1⟩
theorem LkG.nins {K : PySem.W.Frag} {H : Hp} {a : Addr} {fM : Plc → List (Int × Str)} {fP : Int → List Plc} {m p : Addr} {M : List (Plc × Addr)} {P : List (Int × Addr)} (g : LkG K H a fM fP m p M P) : ¬ foot m p M P a := fun h => by
  obtain ⟨C, dx, _, e⟩ := g.ins
  rcases g.dict h with ⟨kv, z⟩ | ⟨kv, z⟩
  · rw [e] at z; cases z
  · rw [e] at z; cases z
/-- what stands aside of F stands -/
def KeepF (F : Addr → Prop) (H H' : Hp) : Prop := ∀ b o, ¬ F b → H b = some o → H' b = some o
theorem KeepF.same {F : Addr → Prop} {H H' : Hp} (s : Same H H') : KeepF F H H' := fun b o _ h => s b o h
theorem KeepF.trans {F F' : Addr → Prop} {H H1 H2 : Hp} (k : KeepF F H H1) (k' : KeepF F' H1 H2) (n : ∀ b, F' b → F b ∨ H b = none) : KeepF F H H2 := fun b o nf h => k' b o (fun f => (n b f).elim nf fun e => by rw [e] at h; cases h) (k b o nf h)
section
variable {H : Hp} {a : Addr} {fM : Plc → List (Int × Str)} {fP : Int → List Plc} {m p : Addr} {M : List (Plc × Addr)} {P : List (Int × Addr)}
/-- a new dict for a place -/
theorem LkG.newM (g : LkG K H a fM fP m p M P) {q : Plc} {d : Addr} (hq : getA M q = none) (nd : H d = none) :
    LkG K (upd (upd H d (.dK [])) m (.dT (putK (msM M) q (.ref d)))) a fM fP m p (M ++ [(q, d)]) P ∧ KeepF (foot m p M P) H (upd (upd H d (.dK [])) m (.dT (putK (msM M) q (.ref d)))) ∧ ∀ b, foot m p (M ++ [(q, d)]) P b → foot m p M P b ∨ H b = none := by
  have nk := getA_none hq
  have dm : d ≠ m := (ne_of_none g.hm nd).symm
  have keep : ∀ b o, b ≠ m → H b = some o → (upd (upd H d (.dK [])) m (.dT (putK (msM M) q (.ref d)))) b = some o := fun b o n h => by rw [upd_ne n, upd_ne (ne_of_none h nd)]; exact h
  have mM : m ∉ M.map (·.2) := fun h => by
    obtain ⟨⟨q, r⟩, h, e⟩ := List.mem_map.mp h
    have z := g.iM q r h
    have e : r = m := e
    rw [e, g.hm] at z
    cases z
  obtain ⟨C, dx, h1, h2⟩ := g.ins
  refine ⟨⟨⟨C, dx, h1, keep _ _ (fun e => g.nins (by rw [e]; exact .inl rfl)) h2⟩, by rw [upd_same, put_ms hq], keep _ _ (ne_of g.hp g.hm (by intro z; cases z)) g.hp, fun r s h => ?_, fun w s h => keep _ _ (fun e => g.mP (by rw [← e]; exact List.mem_map.mpr ⟨_, h, rfl⟩)) (g.iP w s h), ?_, g.kP, ?_, g.aP, ?_, g.mP, fun r h => g.oM r fun z => h (by rw [List.map_append]; exact List.mem_append_left _ z), g.oP⟩, fun b o nf h => keep b o (fun e => nf (.inl e)) h, fun b h => ?_⟩
  · rcases List.mem_append.mp h with h | h
    · exact keep _ _ (fun e => mM (by rw [← e]; exact List.mem_map.mpr ⟨_, h, rfl⟩)) (g.iM r s h)
    · rw [List.mem_singleton] at h
      cases h
      rw [upd_ne dm, upd_same, g.oM q nk]
      rfl
  · rw [List.map_append]
    exact List.nodup_append.mpr ⟨g.kM, by simp, fun x hx y hy e => nk (by rw [List.map_singleton, List.mem_singleton] at hy; have e2 := e.trans hy; dsimp only at e2; rw [← e2]; exact hx)⟩
  · rw [List.map_append]
    refine List.nodup_append.mpr ⟨g.aM, by simp, fun x hx y hy e => ?_⟩
    rw [List.map_singleton, List.mem_singleton] at hy
    obtain ⟨⟨r, s⟩, h, rfl⟩ := List.mem_map.mp hx
    have z := g.iM r s h
    have e : s = d := e.trans hy
    rw [e, nd] at z
    cases z
  · rw [List.map_append]
    intro h
    rcases List.mem_append.mp h with h | h
    · exact g.pM h
    · rw [List.map_singleton, List.mem_singleton] at h
      have z := g.hp
      rw [h, nd] at z
      cases z
  · rcases h with h | h | h | h
    · exact .inl (.inl h)
    · exact .inl (.inr (.inl h))
    · rw [List.map_append] at h
      rcases List.mem_append.mp h with h | h
      · exact .inl (.inr (.inr (.inl h)))
      · rw [List.map_singleton, List.mem_singleton] at h
        rw [h]
        exact .inr nd
    · exact .inl (.inr (.inr (.inr h)))
/-- another row of holders at a place -/
theorem LkG.setM (g : LkG K H a fM fP m p M P) {q : Plc} {r : Addr} (hq : getA M q = some r) (xs : List (Int × Str)) :
    LkG K (upd H r (.dK (kvM xs))) a (fun s => if s = q then xs else fM s) fP m p M P ∧ KeepF (foot m p M P) H (upd H r (.dK (kvM xs))) := by
  have hr := getA_mem hq
  have ra : r ∈ M.map (·.2) := List.mem_map.mpr ⟨_, hr, rfl⟩
  have er := g.iM q r hr
  have keep : ∀ b o, b ≠ r → H b = some o → (upd H r (.dK (kvM xs))) b = some o := fun b o n h => by rw [upd_ne n]; exact h
  obtain ⟨C, dx, h1, h2⟩ := g.ins
  refine ⟨⟨⟨C, dx, h1, keep _ _ (fun e => g.nins (by rw [e]; exact .inr (.inr (.inl ra)))) h2⟩, keep _ _ (ne_of g.hm er (by intro z; cases z)) g.hm, keep _ _ (fun e => g.pM (by rw [e]; exact ra)) g.hp, fun s t h => ?_, fun w t h => keep _ _ (ne_of (g.iP w t h) er (by intro z; cases z)) (g.iP w t h), g.kM, g.kP, g.aM, g.aP, g.pM, g.mP, fun s h => ?_, g.oP⟩, fun b o nf h => keep b o (fun e => nf (by rw [e]; exact .inr (.inr (.inl ra)))) h⟩
  · by_cases e : s = q
    · subst e
      have : t = r := by
        obtain ⟨i, hi, ei⟩ := List.getElem_of_mem h
        obtain ⟨j, hj, ej⟩ := List.getElem_of_mem hr
        have : i = j := (List.getElem?_inj (by rw [List.length_map]; exact hi) g.kM).mp (by rw [List.getElem?_map, List.getElem?_map, List.getElem?_eq_getElem hi, List.getElem?_eq_getElem hj, ei, ej]; rfl)
        subst this
        rw [ei] at ej
        exact congrArg Prod.snd ej
      rw [this, upd_same, if_pos rfl]
    · rw [if_neg e]
      refine keep _ _ (fun z => e ?_) (g.iM s t h)
      obtain ⟨i, hi, ei⟩ := List.getElem_of_mem h
      obtain ⟨j, hj, ej⟩ := List.getElem_of_mem hr
      have : i = j := (List.getElem?_inj (by rw [List.length_map]; exact hi) g.aM).mp (by rw [List.getElem?_map, List.getElem?_map, List.getElem?_eq_getElem hi, List.getElem?_eq_getElem hj, ei, ej]; exact congrArg some z)
      subst this
      rw [ei] at ej
      exact congrArg Prod.fst ej
  · have : s ≠ q := fun e => h (by rw [e]; exact List.mem_map.mpr ⟨_, hr, rfl⟩)
    rw [if_neg this]
    exact g.oM s h
/-- a new dict for a writer -/
theorem LkG.newP (g : LkG K H a fM fP m p M P) {w : Int} {d : Addr} (hq : getA P w = none) (nd : H d = none) :
    LkG K (upd (upd H d (.dT [])) p (.dK (putK (psM P) (.inl w) (.ref d)))) a fM fP m p M (P ++ [(w, d)]) ∧ KeepF (foot m p M P) H (upd (upd H d (.dT [])) p (.dK (putK (psM P) (.inl w) (.ref d)))) ∧ ∀ b, foot m p M (P ++ [(w, d)]) b → foot m p M P b ∨ H b = none := by
  have nk := getA_none hq
  have dp : d ≠ p := (ne_of_none g.hp nd).symm
  have keep : ∀ b o, b ≠ p → H b = some o → (upd (upd H d (.dT [])) p (.dK (putK (psM P) (.inl w) (.ref d)))) b = some o := fun b o n h => by rw [upd_ne n, upd_ne (ne_of_none h nd)]; exact h
  have pP : p ∉ P.map (·.2) := fun h => by
    obtain ⟨⟨q, r⟩, h, e⟩ := List.mem_map.mp h
    have z := g.iP q r h
    have e : r = p := e
    rw [e, g.hp] at z
    cases z
  obtain ⟨C, dx, h1, h2⟩ := g.ins
  refine ⟨⟨⟨C, dx, h1, keep _ _ (fun e => g.nins (by rw [e]; exact .inr (.inl rfl))) h2⟩, keep _ _ (ne_of g.hm g.hp (by intro z; cases z)) g.hm, by rw [upd_same, put_ps hq], fun r s h => keep _ _ (fun e => g.pM (by rw [← e]; exact List.mem_map.mpr ⟨_, h, rfl⟩)) (g.iM r s h), fun v s h => ?_, g.kM, ?_, g.aM, ?_, g.pM, ?_, g.oM, fun v h => g.oP v fun z => h (by rw [List.map_append]; exact List.mem_append_left _ z)⟩, fun b o nf h => keep b o (fun e => nf (.inr (.inl e))) h, fun b h => ?_⟩
  · rcases List.mem_append.mp h with h | h
    · exact keep _ _ (fun e => pP (by rw [← e]; exact List.mem_map.mpr ⟨_, h, rfl⟩)) (g.iP v s h)
    · rw [List.mem_singleton] at h
      cases h
      rw [upd_ne dp, upd_same, g.oP w nk]
      rfl
  · rw [List.map_append]
    exact List.nodup_append.mpr ⟨g.kP, by simp, fun x hx y hy e => nk (by rw [List.map_singleton, List.mem_singleton] at hy; have e2 := e.trans hy; dsimp only at e2; rw [← e2]; exact hx)⟩
  · rw [List.map_append]
    refine List.nodup_append.mpr ⟨g.aP, by simp, fun x hx y hy e => ?_⟩
    rw [List.map_singleton, List.mem_singleton] at hy
    obtain ⟨⟨r, s⟩, h, rfl⟩ := List.mem_map.mp hx
    have z := g.iP r s h
    have e : s = d := e.trans hy
    rw [e, nd] at z
    cases z
  · rw [List.map_append]
    intro h
    rcases List.mem_append.mp h with h | h
    · exact g.mP h
    · rw [List.map_singleton, List.mem_singleton] at h
      have z := g.hm
      rw [h, nd] at z
      cases z
  · rcases h with h | h | h | h
    · exact .inl (.inl h)
    · exact .inl (.inr (.inl h))
    · exact .inl (.inr (.inr (.inl h)))
    · rw [List.map_append] at h
      rcases List.mem_append.mp h with h | h
      · exact .inl (.inr (.inr (.inr h)))
      · rw [List.map_singleton, List.mem_singleton] at h
        rw [h]
        exact .inr nd
/-- other places of a writer -/
theorem LkG.setP (g : LkG K H a fM fP m p M P) {w : Int} {r : Addr} (hq : getA P w = some r) (xs : List Plc) :
    LkG K (upd H r (.dT (kvP xs))) a fM (fun v => if v = w then xs else fP v) m p M P ∧ KeepF (foot m p M P) H (upd H r (.dT (kvP xs))) := by
  have hr := getA_mem hq
  have ra : r ∈ P.map (·.2) := List.mem_map.mpr ⟨_, hr, rfl⟩
  have er := g.iP w r hr
  have keep : ∀ b o, b ≠ r → H b = some o → (upd H r (.dT (kvP xs))) b = some o := fun b o n h => by rw [upd_ne n]; exact h
  obtain ⟨C, dx, h1, h2⟩ := g.ins
  refine ⟨⟨⟨C, dx, h1, keep _ _ (fun e => g.nins (by rw [e]; exact .inr (.inr (.inr ra)))) h2⟩, keep _ _ (fun e => g.mP (by rw [e]; exact ra)) g.hm, keep _ _ (ne_of g.hp er (by intro z; cases z)) g.hp, fun s t h => keep _ _ (ne_of (g.iM s t h) er (by intro z; cases z)) (g.iM s t h), fun v t h => ?_, g.kM, g.kP, g.aM, g.aP, g.pM, g.mP, g.oM, fun v h => ?_⟩, fun b o nf h => keep b o (fun e => nf (by rw [e]; exact .inr (.inr (.inr ra)))) h⟩
  · by_cases e : v = w
    · subst e
      have : t = r := by
        obtain ⟨i, hi, ei⟩ := List.getElem_of_mem h
        obtain ⟨j, hj, ej⟩ := List.getElem_of_mem hr
        have : i = j := (List.getElem?_inj (by rw [List.length_map]; exact hi) g.kP).mp (by rw [List.getElem?_map, List.getElem?_map, List.getElem?_eq_getElem hi, List.getElem?_eq_getElem hj, ei, ej]; rfl)
        subst this
        rw [ei] at ej
        exact congrArg Prod.snd ej
      rw [this, upd_same, if_pos rfl]
    · rw [if_neg e]
      refine keep _ _ (fun z => e ?_) (g.iP v t h)
      obtain ⟨i, hi, ei⟩ := List.getElem_of_mem h
      obtain ⟨j, hj, ej⟩ := List.getElem_of_mem hr
      have : i = j := (List.getElem?_inj (by rw [List.length_map]; exact hi) g.aP).mp (by rw [List.getElem?_map, List.getElem?_map, List.getElem?_eq_getElem hi, List.getElem?_eq_getElem hj, ei, ej]; exact congrArg some z)
      subst this
      rw [ei] at ej
      exact congrArg Prod.fst ej
  · have : v ≠ w := fun e => h (by rw [e]; exact List.mem_map.mpr ⟨_, hr, rfl⟩)
    rw [if_neg this]
    exact g.oP v h
end
/-- a lock table with the locks L; its dicts are F, with at most n keys -/
def LkAt (K : PySem.W.Frag) (H : Hp) (a : Addr) (L : List Lck) (F : Addr → Prop) (n : Nat) : Prop := ∃ m p M P, LkG K H a (atP L) (heldW L) m p M P ∧ LOk L ∧ F = foot m p M P ∧ M.length ≤ n ∧ P.length ≤ n
theorem LkAt.keep {K : PySem.W.Frag} {H H' : Hp} {a : Addr} {L : List Lck} {F : Addr → Prop} {n : Nat} (h : LkAt K H a L F n) (k : ∀ b o, (b = a ∨ F b) → H b = some o → H' b = some o) : LkAt K H' a L F n := by
  obtain ⟨m, p, M, P, g, ok, rfl, l⟩ := h
  exact ⟨m, p, M, P, g.same k, ok, rfl, l⟩
theorem LkAt.same {K : PySem.W.Frag} {H H' : Hp} {a : Addr} {L : List Lck} {F : Addr → Prop} {n : Nat} (h : LkAt K H a L F n) (s : Same H H') : LkAt K H' a L F n := h.keep fun b o _ e => s b o e
theorem LkAt.dict {K : PySem.W.Frag} {H : Hp} {a : Addr} {L : List Lck} {F : Addr → Prop} {n : Nat} (h : LkAt K H a L F n) {b : Addr} (f : F b) : (∃ kv, H b = some (.dK kv)) ∨ ∃ kv, H b = some (.dT kv) := by
  obtain ⟨m, p, M, P, g, ok, rfl, l⟩ := h
  exact g.dict f
end
section
variable {P : Program} {w : World} {K : PySem.W.Frag} {mg : Str → Option Value} {base : Heap}
variable {a_LockTable : Addr}
/-! ### comprehensions without effects -/
/-- what such a comprehension has made by its turn i -/
def PvP (H1 : Hp) (D : Addr) (acc : Nat → List V) (i : Nat) (H' : Hp) : Prop := Same H1 H' ∧ H' D = some (.lst (acc i))
theorem pvp_start {H1 : Hp} {D : Addr} {acc : Nat → List V} (nD : H1 D = none) (h0 : acc 0 = []) : PvP H1 D acc 0 (upd H1 D (.lst [])) := ⟨same_new nD, by rw [upd_same, h0]⟩
theorem pvp_put {H1 H2 H4 : Hp} {D : Addr} {acc : Nat → List V} {i : Nat} {y : V} (nD : H1 D = none) (p : PvP H1 D acc i H2) (s : Same H2 H4) (e : acc (i + 1) = acc i ++ [y]) (l : (acc i).length < 100000) :
    ∃ a, H4 D = some (.lst a) ∧ a.length < sizeLine ∧ PvP H1 D acc (i + 1) (upd H4 D (.lst (a ++ [y]))) :=
  ⟨acc i, s _ _ p.2, line_lt l, fun b o hb => by rw [upd_ne (ne_of_none hb nD)]; exact s _ _ (p.1 _ _ hb), by rw [upd_same, e]⟩
theorem pvp_skip {H1 H2 H4 : Hp} {D : Addr} {acc : Nat → List V} {i : Nat} (p : PvP H1 D acc i H2) (s : Same H2 H4) (e : acc (i + 1) = acc i) : PvP H1 D acc (i + 1) H4 := ⟨p.1.trans s, by rw [e]; exact s _ _ p.2⟩
/-- those of the first i that pass -/
def keepF {α : Type} (xs : List α) (p : α → Bool) (f : α → V) (i : Nat) : List V := ((xs.take i).filter p).map f
theorem keepF_put {α : Type} {xs : List α} {p : α → Bool} {f : α → V} {i : Nat} {x : α} (e : xs[i]? = some x) (h : p x = true) : keepF xs p f (i + 1) = keepF xs p f i ++ [f x] := by
  unfold keepF
  rw [take_snoc e, List.filter_append, List.filter_cons_of_pos h, List.map_append]
  rfl
theorem keepF_skip {α : Type} {xs : List α} {p : α → Bool} {f : α → V} {i : Nat} {x : α} (e : xs[i]? = some x) (h : ¬ p x = true) : keepF xs p f (i + 1) = keepF xs p f i := by
  unfold keepF
  rw [take_snoc e, List.filter_append, List.filter_cons_of_neg h, List.filter_nil, List.append_nil]
theorem keepF_len {α : Type} {xs : List α} {p : α → Bool} {f : α → V} {i : Nat} : (keepF xs p f i).length ≤ xs.length := by
  unfold keepF
  rw [List.length_map]
  have h1 := List.length_filter_le p (xs.take i)
  rw [List.length_take] at h1
  omega
theorem keepF_all {α : Type} {xs : List α} {p : α → Bool} {f : α → V} {n : Nat} (h : n = xs.length) : keepF xs p f n = (xs.filter p).map f := by
  unfold keepF
  rw [h, List.take_length]
def mapF {α : Type} (xs : List α) (f : α → V) (i : Nat) : List V := (xs.take i).map f
theorem mapF_put {α : Type} {xs : List α} {f : α → V} {i : Nat} {x : α} (e : xs[i]? = some x) : mapF xs f (i + 1) = mapF xs f i ++ [f x] := by
  unfold mapF
  rw [take_snoc e, List.map_append]
  rfl
theorem mapF_len {α : Type} {xs : List α} {f : α → V} {i : Nat} : (mapF xs f i).length ≤ xs.length := by
  unfold mapF
  rw [List.length_map, List.length_take]
  omega
theorem mapF_all {α : Type} {xs : List α} {f : α → V} {n : Nat} (h : n = xs.length) : mapF xs f n = xs.map f := by
  unfold mapF
  rw [h, List.take_length]
/-! ### LockTable -/
def sp_LockTable___init__ (K : PySem.W.Frag) : Sp := fun vs H Q _ => ∃ (x C dx : Addr), vs = [.ref x] ∧ PySem.W.nsIn K mainGlobals "LockTable" = some (some (.ref C)) ∧ H x = some (.ins C dx []) ∧
  ∀ (H' : Hp) (m p : Addr), Bt x H H' → H m = none → H p = none → m ≠ p → H' x = some (.ins C dx [("_modes", .ref m), ("_places", .ref p)]) → H' m = some (.dT []) → H' p = some (.dK []) → Q .non H'
theorem len_LockTable___init__ {vs : List V} {H : Hp} {Q : VK} {E : XK} (h : sp_LockTable___init__ K vs H Q E) : vs.length = 1 := by
  obtain ⟨_, _, _, rfl, _⟩ := h
  rfl
theorem ok_LockTable___init__ {f : Addr} {fd : FuncData} (F : Fun K "__init__" "LockTable.__init__" s_LockTable___init__ f fd) (T : Gs K mg a_LockTable) : FnOk P w K mg base CX0 1 f fd ["self"] (sp_LockTable___init__ K) := by
  refine F.ok sc_LockTable___init__ (fun vs H Q E h => len_LockTable___init__ h) (fun cdv A outer s H vs Q E hr h => ?_)
  obtain ⟨x, C, dx, rfl, hC, hx, q⟩ := h
  cases hC.symm.trans T.n_LockTable
  refine ⟨_, (pss_cons (ps_fld (v_ 0) pe_dnewT (by rfl)) (pss_one (ps_fld (v_ 0) pe_dnewK (by rfl)))), ?_⟩
  refine fun m nm => ?_
  have s1 := same_new (o := .dT []) nm
  have mx : m ≠ x := (ne_of_none hx nm).symm
  refine ⟨x, a_LockTable, dx, [], rfl, s1 _ _ hx, T.cl_LockTable, T.na_LockTable__modes, by decide, ?_⟩
  generalize hH2 : upd (upd H m (.dT [])) x _ = H2
  have b2 : Bt x H H2 := fun b o nb hb => by rw [← hH2, upd_ne nb]; exact s1 _ _ hb
  have hx2 : H2 x = some (.ins a_LockTable dx [("_modes", .ref m)]) := by rw [← hH2, upd_same]; rfl
  have hm2 : H2 m = some (.dT []) := by rw [← hH2, upd_ne mx, upd_same]
  clear hH2
  refine fun p np => ?_
  have s3 := same_new (o := .dK []) np
  have px : p ≠ x := (ne_of_none hx2 np).symm
  have pm : m ≠ p := ne_of_none hm2 np
  refine ⟨x, a_LockTable, dx, [("_modes", .ref m)], rfl, s3 _ _ hx2, T.cl_LockTable, T.na_LockTable__places, (by show 1 < 1000; decide), ?_⟩
  refine q _ m p (fun b o nb hb => by rw [upd_ne nb]; exact s3 _ _ (b2 _ _ nb hb)) nm (b2.free px np) pm (by rw [upd_same]; rfl) (by rw [upd_ne mx]; exact s3 _ _ hm2) (by rw [upd_ne px, upd_same])
theorem made_locks {H H' : Hp} {x C dx m p : Addr} (hC : PySem.W.nsIn K mainGlobals "LockTable" = some (some (.ref C))) (hx : H' x = some (.ins C dx [("_modes", .ref m), ("_places", .ref p)])) (hm : H' m = some (.dT [])) (hp : H' p = some (.dK [])) : LkAt K H' x [] (foot m p [] []) 0 :=
  ⟨m, p, [], [], ⟨⟨C, dx, hC, hx⟩, hm, hp, (fun _ _ h => nomatch h), (fun _ _ h => nomatch h), List.nodup_nil, List.nodup_nil, List.nodup_nil, List.nodup_nil, (fun h => nomatch h), (fun h => nomatch h), (fun _ _ => rfl), fun _ _ => rfl⟩, List.nodup_nil, rfl, Nat.le_refl _, Nat.le_refl _⟩
/-- a pair of a writer and a mode -/
def PrA (H : Hp) (v : V) (p : Int × Str) : Prop := ∃ t, v = .ref t ∧ H t = some (.tup [.int p.1, .str p.2])
theorem PrA.same {H H' : Hp} {v : V} {p : Int × Str} (h : PrA H v p) (s : Same H H') : PrA H' v p := by
  obtain ⟨t, e, h⟩ := h
  exact ⟨t, e, s _ _ h⟩
inductive PrAs (H : Hp) : List V → List (Int × Str) → Prop
  | nil : PrAs H [] []
  | cons {v : V} {p : Int × Str} {vs : List V} {ps : List (Int × Str)} : PrA H v p → PrAs H vs ps → PrAs H (v :: vs) (p :: ps)
theorem PrAs.same {H H' : Hp} {vs : List V} {ps : List (Int × Str)} (h : PrAs H vs ps) (s : Same H H') : PrAs H' vs ps := by
  induction h with
  | nil => exact .nil
  | cons a _ ih => exact .cons (a.same s) ih
theorem PrAs.imp {H H' : Hp} {vs : List V} {ps : List (Int × Str)} (h : PrAs H vs ps) (s : ∀ v p, PrA H v p → PrA H' v p) : PrAs H' vs ps := by
  induction h with
  | nil => exact .nil
  | cons a _ ih => exact .cons (s _ _ a) ih
theorem PrAs.len {H : Hp} {vs : List V} {ps : List (Int × Str)} (h : PrAs H vs ps) : vs.length = ps.length := by
  induction h with
  | nil => rfl
  | cons _ _ ih => rw [List.length_cons, List.length_cons, ih]
theorem PrAs.at {H : Hp} {vs : List V} {ps : List (Int × Str)} (h : PrAs H vs ps) : ∀ {i : Nat} {v : V}, vs[i]? = some v → ∃ p, ps[i]? = some p ∧ PrA H v p := by
  induction h with
  | nil => intro i v e; simp at e
  | @cons a p as ps h1 _ ih =>
    intro i v e
    cases i with
    | zero => cases e; exact ⟨p, rfl, h1⟩
    | succ i => exact ih e
theorem PrAs.snoc {H : Hp} {vs : List V} {ps : List (Int × Str)} {v : V} {p : Int × Str} (h : PrAs H vs ps) (a : PrA H v p) : PrAs H (vs ++ [v]) (ps ++ [p]) := by
  induction h with
  | nil => exact .cons a .nil
  | cons b _ ih => exact .cons b ih
theorem prs_of {H : Hp} {dec : V → Int × Str} : ∀ {vs : List V}, (∀ v ∈ vs, PrA H v (dec v)) → PrAs H vs (vs.map dec)
  | [], _ => .nil
  | v :: r, h => .cons (h v List.mem_cons_self) (prs_of fun u hu => h u (List.mem_cons_of_mem _ hu))
/-- a pair, read off the heap -/
def decP (H : Hp) (v : V) : Int × Str := match v with
  | .ref t => match H t with
    | some (.tup [.int i, .str z]) => (i, z)
    | _ => (0, Str.empty)
  | _ => (0, Str.empty)
theorem dec_at {H : Hp} {t : Addr} {i : Int} {z : Str} (h : H t = some (.tup [.int i, .str z])) : decP H (.ref t) = (i, z) := by
  show (match H t with
    | some (.tup [.int i, .str z]) => (i, z)
    | _ => (0, Str.empty)) = _
  rw [h]
def encP (p : Int × Str) : PyData := .tuple [.int p.1, .str p.2]
theorem enc_alike (a b : Int × Str) : PySem.W.alike (encP a) (encP b) = true := by
  unfold encP
  simp [PySem.W.alike, PySem.W.alikeAll]
theorem enc_le {a b : Int × Str} (h : a.1 = b.1 → a = b) : PySem.W.dataLe false encP a b = decide (a.1 ≤ b.1) := by
  have e : PySem.W.dataLe false encP a b = !PySem.W.dataLt (encP b) (encP a) := rfl
  rw [e]
  unfold encP
  rw [PySem.W.dataLt_pair (by simp [PySem.W.alike]) (by simp [PySem.W.alike]), PySem.W.dataLt_int]
  by_cases c : a.1 = b.1
  · have ab := h c
    subst ab
    rw [if_pos (by simp [PyData.eqv]), if_pos (by simp [PyData.eqv])]
    rw [decide_eq_true (Int.le_refl _)]
    rfl
  · rw [if_neg (by simp [PyData.eqv]; exact fun z => c z.symm)]
    by_cases d : b.1 < a.1
    · rw [decide_eq_true d, decide_eq_false (by omega)]
      rfl
    · rw [decide_eq_false d, decide_eq_true (by omega)]
      rfl
theorem paired_prs {H : Hp} : ∀ {ts : List Addr} {ps : List (Int × Str)}, Paired (fun (t : Addr) (q : Key × V) => H t = some (.tup [kV q.1, q.2])) ts (kvM ps) → (∀ t ∈ ts, ∃ i z, H t = some (.tup [.int i, .str z])) ∧ (ts.map V.ref).map (decP H) = ps
  | [], [], _ => ⟨(fun _ h => nomatch h), rfl⟩
  | [], _ :: _, h => nomatch h
  | _ :: _, [], h => nomatch h
  | t :: ts, p :: ps, .cons h r => by
    obtain ⟨h1, h2⟩ := paired_prs r
    have h : H t = some (.tup [.int p.1, .str p.2]) := h
    refine ⟨fun u hu => ?_, ?_⟩
    · rcases List.mem_cons.mp hu with rfl | hu
      · exact ⟨_, _, h⟩
      · exact h1 u hu
    · rw [List.map_cons, List.map_cons, h2, dec_at h]
def sp_LockTable_holders (K : PySem.W.Frag) : Sp := fun vs H Q _ => ∃ (a b : Addr) (q : Plc) (L : List Lck) (F : Addr → Prop) (n : Nat), vs = [.ref a, .ref b] ∧ H b = some (.tup (q.map kV)) ∧ LkAt K H a L F n ∧ L.length ≤ 5000 ∧
  ∀ (H' : Hp) (r : Addr) (ys : List V), Same H H' → H r = none → H' r = some (.lst ys) → PrAs H' ys (holdersOf L q) → Q (.ref r) H'
theorem len_LockTable_holders {vs : List V} {H : Hp} {Q : VK} {E : XK} (h : sp_LockTable_holders K vs H Q E) : vs.length = 2 := by
  obtain ⟨_, _, _, _, _, _, rfl, _⟩ := h
  rfl
theorem ok_LockTable_holders {f : Addr} {fd : FuncData} (F : Fun K "holders" "LockTable.holders" s_LockTable_holders f fd) (T : Gs K mg a_LockTable) : FnOk P w K mg base CX0 1 f fd ["self", "place"] (sp_LockTable_holders K) := by
  refine F.ok sc_LockTable_holders (fun vs H Q E h => len_LockTable_holders h) (fun cdv A outer s H vs Q E hr h => ?_)
  obtain ⟨a, b, q, L, F, n, rfl, hb, ⟨m, p, M, P, g, ok, rfl, _⟩, few, qq⟩ := h
  obtain ⟨C, dx, hC, ha⟩ := g.ins
  cases hC.symm.trans T.n_LockTable
  refine ⟨_, (pss_one (ps_ret (pe_callB (cr_sortedD K hr.units) (by rfl) T.z_sorted (by decide +kernel) (pa_cons (LiI.pe_listItems rfl (pe_dget2 (hu_of hr) (e_f K (v_ 0)) (v_ 1) pe_dnewK ⟨rfl, rfl, rfl, rfl⟩) (by rfl) T.z_list (by decide +kernel)) pa_nil)))), ?_⟩
  refine ⟨a, a_LockTable, dx, _, _, rfl, ha, T.cl_LockTable, T.na_LockTable__modes, rfl, ?_⟩
  refine ⟨m, rfl, .inr ⟨_, .inl g.hm⟩, fun d nd => ?_⟩
  have s1 := same_new (o := .dK []) nd
  refine ⟨_, DGet.t (s1 _ _ g.hm) (s1 _ _ hb), ?_⟩
  rw [val_ms]
  obtain ⟨r, er, hr0⟩ : ∃ r, (((getA M q).map V.ref).getD (.ref d) = .ref r) ∧ (upd H d (.dK [])) r = some (.dK (kvM (atP L q))) := by
    cases e : getA M q with
    | some r => exact ⟨r, rfl, s1 _ _ (g.iM q r (getA_mem e))⟩
    | none => exact ⟨d, rfl, by rw [upd_same, g.oM q (getA_none e)]; rfl⟩
  rw [er]
  refine ⟨r, _, rfl, hr0, fun H2 o ts k2 n2 _ _ ho hts => ?_⟩
  obtain ⟨h1, h2⟩ := paired_prs hts
  have s2 := s1.trans k2
  have mem : ∀ x ∈ ts.map V.ref, ∃ t i z, x = .ref t ∧ H2 t = some (.tup [.int i, .str z]) := fun x hx => by
    obtain ⟨t, ht, rfl⟩ := List.mem_map.mp hx
    obtain ⟨i, z, e⟩ := h1 t ht
    exact ⟨t, i, z, rfl, e⟩
  have pr : ∀ x ∈ ts.map V.ref, PrA H2 x (decP H2 x) := fun x hx => by
    obtain ⟨t, i, z, rfl, e⟩ := mem x hx
    rw [dec_at e]
    exact ⟨t, rfl, e⟩
  refine ⟨o, ts.map V.ref, fun x => encP (decP H2 x), rfl, SqL.of ho, fun x hx => ⟨?_, ⟨_, _, rfl⟩, by show (encP (decP H2 x)).depth ≤ 10; simp [encP, PyData.depth, PyData.depthAll]⟩, ?_, fun l nl => ?_⟩
  · obtain ⟨t, i, z, rfl, e⟩ := mem x hx
    show Dp K H2 (.ref t) (encP (decP H2 (.ref t)))
    rw [dec_at e]
    exact .tup (SqT.of e) (.cons (.int _) (.cons (.str _) .nil))
  · intro x hx y hy
    obtain ⟨u, _, rfl⟩ := List.mem_map.mp hx
    obtain ⟨v, _, rfl⟩ := List.mem_map.mp hy
    exact enc_alike _ _
  have s3 := same_new (o := .lst ((ts.map V.ref).mergeSort (PySem.W.dataLe false fun x => encP (decP H2 x)))) nl
  refine qq _ l _ (s2.trans s3) (Same.free s2 nl) upd_same ?_
  have e1 : ((ts.map V.ref).mergeSort (PySem.W.dataLe false fun x => encP (decP H2 x))).map (decP H2) = holdersOf L q := by
    have sm := PySem.W.sort_maps (r := PySem.W.dataLe false fun x => encP (decP H2 x)) (s := PySem.W.dataLe false encP) (decP H2) (l := ts.map V.ref) fun x _ y _ => rfl
    rw [sm, h2]
    unfold holdersOf
    have nd := ok.at q
    refine PySem.W.sort_congr fun x hx y hy => enc_le fun e => ?_
    obtain ⟨i, hi, ei⟩ := List.getElem_of_mem hx
    obtain ⟨j, hj, ej⟩ := List.getElem_of_mem hy
    have : i = j := (List.getElem?_inj (by rw [List.length_map]; exact hi) nd).mp (by rw [List.getElem?_map, List.getElem?_map, List.getElem?_eq_getElem hi, List.getElem?_eq_getElem hj, ei, ej]; exact congrArg some e)
    subst this
    rw [← ei, ← ej]
  rw [← e1]
  refine (prs_of fun x hx => ?_).same s3
  exact pr x ((List.mergeSort_perm _ _).mem_iff.mp hx)
def sp_LockTable_blockers (K : PySem.W.Frag) : Sp := fun vs H Q _ => ∃ (a b : Addr) (q : Plc) (w : Int) (md : Str) (L : List Lck) (F : Addr → Prop) (n : Nat), vs = [.ref a, .ref b, .int w, .str md] ∧ H b = some (.tup (q.map kV)) ∧ LkAt K H a L F n ∧ L.length ≤ 5000 ∧
  ∀ (H' : Hp) (r : Addr), Same H H' → H r = none → H' r = some (.lst ((blockersOf L q w md).map V.int)) → Q (.ref r) H'
theorem len_LockTable_blockers {vs : List V} {H : Hp} {Q : VK} {E : XK} (h : sp_LockTable_blockers K vs H Q E) : vs.length = 4 := by
  obtain ⟨_, _, _, _, _, _, _, _, rfl, _⟩ := h
  rfl
theorem ok_LockTable_blockers {f : Addr} {fd : FuncData} {f_LockTable_holders : Addr} {fd_LockTable_holders : FuncData} (F : Fun K "blockers" "LockTable.blockers" s_LockTable_blockers f fd) (T : Gs K mg a_LockTable) (c_LockTable_holders : CalM P w K mg base CX0 1 a_LockTable "holders" f_LockTable_holders fd_LockTable_holders ["self", "place"] (sp_LockTable_holders K)) : FnOk P w K mg base CX0 2 f fd ["self", "place", "writer", "mode"] (sp_LockTable_blockers K) := by
  refine F.ok sc_LockTable_blockers (fun vs H Q E h => len_LockTable_blockers h) (fun cdv A outer s H vs Q E hr h => ?_)
  obtain ⟨a, b, q, w, md, L, F, n, rfl, hb, hL, few, qq⟩ := h
  refine ⟨_, (pss_cons (ps_setLc (i := 4) (own := [("pair", 5)]) (g := gName 5) (by rfl) sc_LockTable_blockers.nd rfl rfl (sw_true rfl rfl rfl (by decide +kernel)) (pi_list (pe_meth (v_ 0) c_LockTable_holders.cl c_LockTable_holders.me c_LockTable_holders.G (hr.mono (by first | decide | omega)) c_LockTable_holders.b .nil pass0 (pa_cons (v_ 1) pa_nil))) (blkOk_by (N := ["self", "place", "writer", "mode", "others", "pair", "other", "other_mode"]) (sc := defScope s_LockTable_blockers) (by decide +kernel)) (fun _ _ _ _ _ => pg_name (i := 5) sc_LockTable_blockers.nd rfl (Or.inl rfl)) (fun _ _ _ _ _ => pts_one (pt_c (neK K hr.units) (e_x K (v_ 5) pe_int) (v_ 2))) (fun _ _ _ _ _ => (v_ 5))) (pss_one (ps_ret (pe_lc (own := [("other", 6), ("other_mode", 7)]) (g := gTup K 2 (gCons (gName 6) (gCons (gName 7) gNil))) (by rfl) sc_LockTable_blockers.nd (pi_list (v_ 4)) (blkOk_by (N := ["self", "place", "writer", "mode", "others", "pair", "other", "other_mode"]) (sc := defScope s_LockTable_blockers) (by decide +kernel)) (fun _ _ _ _ _ => pg_tupK K (by rfl) (pgs_cons (pg_name (i := 6) sc_LockTable_blockers.nd rfl (Or.inl rfl)) (pgs_cons (pg_name (i := 7) sc_LockTable_blockers.nd rfl (Or.inl rfl)) pgs_nil))) (fun _ _ _ _ _ => pts_one (pt_c (inK K) pe_str (pe_tup (pa_cons (v_ 3) (pa_cons (v_ 7) pa_nil))))) (fun _ _ _ _ _ => (v_ 6)))))), ?_⟩
  obtain ⟨m, p, M, P, g, ok, eF, _⟩ := id hL
  obtain ⟨C, dx, hC, ha⟩ := g.ins
  cases hC.symm.trans T.n_LockTable
  refine ⟨a, dx, _, rfl, ha, rfl, a, b, q, L, F, n, rfl, hb, hL, few, fun H1 r ys s1 nr hr1 hys => ?_⟩
  have hl := holders_len (L := L) (q := q)
  have yl := hys.len
  refine ⟨r, rfl, ⟨_, SqL.of hr1⟩, fun D nD => ?_⟩
  refine lc_it (walk_list (xs := ys)) (fun i H' => Same H1 H' ∧ ∃ us, H' D = some (.lst us) ∧ PrAs H' us (((holdersOf L q).take i).filter fun x => !decide (x.1 = w))) ⟨same_new nD, [], upd_same, .nil⟩ (fun _ _ _ h => SqL.of (h.1 _ _ hr1)) ?_ ?_
  · rintro i v H2 H3 hi ⟨s2, us, hD, hus⟩ ⟨rfl, hv⟩
    obtain ⟨⟨x, z⟩, e, t, rfl, ht⟩ := (hys.same s2).at hv
    have i0 : atI [V.int x, .str z] (0 : Int) = some (.int x) := rfl
    have ul := hus.len
    have fl := List.length_filter_le (fun x : Int × Str => !decide (x.1 = w)) ((holdersOf L q).take i)
    rw [List.length_take] at fl
    refine ⟨rfl, _, .inr (SqT.of ht), _, i0, ?_⟩
    refine ite2 (fun c => ?_) (fun c => ?_)
    · refine ⟨us, hD, line_lt (by omega), fun b o hb => by rw [upd_ne (ne_of_none hb nD)]; exact s2 _ _ hb, us ++ [.ref t], upd_same, ?_⟩
      have tD : t ≠ D := ne_of ht hD (by intro z; cases z)
      have keep : ∀ v p, PrA H3 v p → PrA (upd H3 D (.lst (us ++ [.ref t]))) v p := fun v p ⟨u, e, h⟩ => ⟨u, e, by rw [upd_ne (ne_of h hD (by intro z; cases z))]; exact h⟩
      rw [take_snoc e, List.filter_append, List.filter_cons_of_pos (by exact c)]
      have h2 : PrAs (upd H3 D (.lst (us ++ [.ref t]))) us (((holdersOf L q).take i).filter fun x => !decide (x.1 = w)) := hus.imp keep
      exact h2.snoc (keep _ _ ⟨t, rfl, ht⟩)
    · refine ⟨s2, us, hD, ?_⟩
      rw [take_snoc e, List.filter_append, List.filter_cons_of_neg (by exact c), List.filter_nil, List.append_nil]
      exact hus
  rintro H2 ⟨s2, us, hD, hus⟩
  rw [yl, List.take_length] at hus
  have ul := hus.len
  have s12 := s1.trans s2
  have fl := List.length_filter_le (fun x : Int × Str => !decide (x.1 = w)) (holdersOf L q)
  refine ⟨D, rfl, ⟨_, SqL.of hD⟩, fun D2 nD2 => ?_⟩
  refine lc_it (walk_list (xs := us)) (PvP H2 D2 (keepF ((holdersOf L q).filter fun x => !decide (x.1 = w)) (fun x => decide (md = ("hold" : Str)) || decide (x.2 = ("hold" : Str))) fun x => .int x.1)) (pvp_start nD2 rfl) (fun _ _ _ h => SqL.of (h.1 _ _ hD)) ?_ ?_
  · rintro i v H3 H4 hi pv ⟨rfl, hv⟩
    obtain ⟨⟨x, z⟩, e, t, rfl, ht⟩ := (hus.same pv.1).at hv
    refine ⟨t, _, rfl, SqT.of ht, rfl, _, _, rfl, _, _, rfl, rfl, rfl, ?_⟩
    refine ⟨(by show 2 ≤ sizeLine; decide), fun u nu => ?_⟩
    have s4 := same_new (o := .tup [.str md, .str z]) nu
    refine ⟨_, .inr (SqT.of upd_same), rfl, rfl, ?_⟩
    have eb : inV (.str ("hold" : Str)) [.str md, .str z] = (decide (md = ("hold" : Str)) || decide (z = ("hold" : Str))) := by
      have := inV_str (z := ("hold" : Str)) (xs := [md, z])
      rw [show [V.str md, .str z] = [md, z].map V.str from rfl, this, Bool.eq_iff_iff, Bool.or_eq_true, decide_eq_true_iff, decide_eq_true_iff, decide_eq_true_iff]
      simp only [List.mem_cons, List.not_mem_nil, or_false]
      exact ⟨fun h => h.imp Eq.symm Eq.symm, fun h => h.imp Eq.symm Eq.symm⟩
    refine ite2 (fun c => ?_) (fun c => ?_)
    · exact pvp_put nD2 pv s4 (keepF_put e (eb.symm.trans c)) (Nat.lt_of_le_of_lt keepF_len (by omega))
    · exact pvp_skip pv s4 (keepF_skip e fun h => c (eb.trans h))
  rintro H3 ⟨s3, hD2⟩
  rw [keepF_all ul, List.filter_filter] at hD2
  refine qq H3 D2 (s12.trans s3) (Same.free s12 nD2) ?_
  rw [hD2]
  unfold blockersOf
  rw [List.map_map]
  congr 2
  congr 1
  refine List.filter_congr fun x _ => ?_
  show (_ && _) = blocks w md x
  unfold blocks
  rw [Bool.and_comm]
end
section
variable {P : Program} {w : World} {K : PySem.W.Frag} {mg : Str → Option Value} {base : Heap}
variable {a_LockTable : Addr}
/-! ### rows of objects -/
inductive All2 {α : Type} (R : V → α → Prop) : List V → List α → Prop
  | nil : All2 R [] []
  | cons {v : V} {a : α} {vs : List V} {as : List α} : R v a → All2 R vs as → All2 R (v :: vs) (a :: as)
theorem All2.imp {α : Type} {R R' : V → α → Prop} (f : ∀ v a, R v a → R' v a) {vs : List V} {as : List α} (h : All2 R vs as) : All2 R' vs as := by
  induction h with
  | nil => exact .nil
  | cons a _ ih => exact .cons (f _ _ a) ih
theorem All2.len {α : Type} {R : V → α → Prop} {vs : List V} {as : List α} (h : All2 R vs as) : vs.length = as.length := by
  induction h with
  | nil => rfl
  | cons _ _ ih => rw [List.length_cons, List.length_cons, ih]
theorem All2.snoc {α : Type} {R : V → α → Prop} {vs : List V} {as : List α} {v : V} {a : α} (h : All2 R vs as) (k : R v a) : All2 R (vs ++ [v]) (as ++ [a]) := by
  induction h with
  | nil => exact .cons k .nil
  | cons b _ ih => exact .cons b ih
theorem All2.app {α : Type} {R : V → α → Prop} {vs us : List V} {as bs : List α} (h : All2 R vs as) (k : All2 R us bs) : All2 R (vs ++ us) (as ++ bs) := by
  induction h with
  | nil => exact k
  | cons b _ ih => exact .cons b ih
theorem All2.at {α : Type} {R : V → α → Prop} {vs : List V} {as : List α} (h : All2 R vs as) : ∀ {i : Nat} {v : V}, vs[i]? = some v → ∃ a, as[i]? = some a ∧ R v a := by
  induction h with
  | nil => intro i v e; simp at e
  | @cons v a vs as h1 _ ih =>
    intro i u e
    cases i with
    | zero => cases e; exact ⟨a, rfl, h1⟩
    | succ i => exact ih e
theorem All2.to {α : Type} {R : V → α → Prop} {vs : List V} {as : List α} (h : All2 R vs as) {i : Nat} {a : α} (e : as[i]? = some a) : ∃ v, vs[i]? = some v ∧ R v a := by
  have l := h.len
  have il := (List.getElem?_eq_some_iff.mp e).1
  obtain ⟨b, e2, hb⟩ := h.at (List.getElem?_eq_getElem (show i < vs.length by omega))
  rw [e] at e2
  cases e2
  exact ⟨_, List.getElem?_eq_getElem (by omega), hb⟩
theorem All2.take {α : Type} {R : V → α → Prop} {vs : List V} {as : List α} (h : All2 R vs as) : ∀ n, All2 R (vs.take n) (as.take n) := by
  induction h with
  | nil => intro n; rw [List.take_nil, List.take_nil]; exact .nil
  | cons a _ ih =>
    intro n
    cases n with
    | zero => exact .nil
    | succ n => exact .cons a (ih n)
theorem All2.drop {α : Type} {R : V → α → Prop} {vs : List V} {as : List α} (h : All2 R vs as) : ∀ n, All2 R (vs.drop n) (as.drop n) := by
  induction h with
  | nil => intro n; rw [List.drop_nil, List.drop_nil]; exact .nil
  | cons a h ih =>
    intro n
    cases n with
    | zero => exact .cons a h
    | succ n => exact ih n
theorem All2.rev {α : Type} {R : V → α → Prop} {vs : List V} {as : List α} (h : All2 R vs as) : All2 R vs.reverse as.reverse := by
  induction h with
  | nil => exact .nil
  | cons a _ ih => rw [List.reverse_cons, List.reverse_cons]; exact ih.snoc a
/-! ### LockTable.take -/
theorem mem_at_held {L : List Lck} {q : Plc} {w : Int} : w ∈ (atP L q).map (·.1) ↔ q ∈ heldW L w := by
  rw [List.mem_map, mem_held]
  constructor
  · rintro ⟨⟨v, m⟩, h, rfl⟩
    exact ⟨m, mem_at.mp h⟩
  · rintro ⟨m, h⟩
    exact ⟨(w, m), mem_at.mpr h, rfl⟩
theorem setd_split {Q : VK} {kvs : List (Plc × V)} {k : Plc} {z : V} {H : Hp} {a : Addr} (h : ∀ v H', ((valV kvs k = some v ∧ H' = H) ∨ (valV kvs k = none ∧ v = z ∧ H' = upd H a (.dT (putK kvs k z)))) → Q v H') :
    (∀ v, valV kvs k = some v → Q v H) ∧ (valV kvs k = none → Q z (upd H a (.dT (putK kvs k z)))) := ⟨fun v e => h v H (.inl ⟨e, rfl⟩), fun e => h z _ (.inr ⟨e, rfl, rfl⟩)⟩
theorem setd_splitK {Q : VK} {kvs : List (Key × V)} {k : Key} {z : V} {H : Hp} {a : Addr} (h : ∀ v H', ((valV kvs k = some v ∧ H' = H) ∨ (valV kvs k = none ∧ v = z ∧ H' = upd H a (.dK (putK kvs k z)))) → Q v H') :
    (∀ v, valV kvs k = some v → Q v H) ∧ (valV kvs k = none → Q z (upd H a (.dK (putK kvs k z)))) := ⟨fun v e => h v H (.inl ⟨e, rfl⟩), fun e => h z _ (.inr ⟨e, rfl, rfl⟩)⟩
/-- the dict of a place, made where there was none -/
theorem LkG.getM {H H' : Hp} {a d m p : Addr} {fM : Plc → List (Int × Str)} {fP : Int → List Plc} {M : List (Plc × Addr)} {P : List (Int × Addr)} (g : LkG K H a fM fP m p M P) {q : Plc} {v : V} (nd : H d = none)
    (h : (valV (msM M) q = some v ∧ H' = upd H d (.dK [])) ∨ (valV (msM M) q = none ∧ v = .ref d ∧ H' = upd (upd H d (.dK [])) m (.dT (putK (msM M) q (.ref d))))) :
    ∃ r M', v = .ref r ∧ LkG K H' a fM fP m p M' P ∧ getA M' q = some r ∧ M'.length ≤ M.length + 1 ∧ KeepF (foot m p M P) H H' ∧ ∀ b, foot m p M' P b → foot m p M P b ∨ H b = none := by
  rcases h with ⟨e, rfl⟩ | ⟨e, rfl, rfl⟩
  · rw [val_ms] at e
    obtain ⟨r, e2, rfl⟩ := Option.map_eq_some_iff.mp e
    clear e
    have e := e2
    exact ⟨r, M, rfl, g.same fun b o _ h => same_new nd _ _ h, e, Nat.le_succ _, KeepF.same (same_new nd), fun b h => .inl h⟩
  · rw [val_ms, Option.map_eq_none_iff] at e
    obtain ⟨g1, g2, g3⟩ := g.newM e nd
    exact ⟨d, _, rfl, g1, getA_snoc e, by rw [List.length_append]; exact Nat.le_refl _, g2, g3⟩
theorem LkG.getP {H H' : Hp} {a d m p : Addr} {fM : Plc → List (Int × Str)} {fP : Int → List Plc} {M : List (Plc × Addr)} {P : List (Int × Addr)} (g : LkG K H a fM fP m p M P) {w : Int} {v : V} (nd : H d = none)
    (h : (valV (psM P) (.inl w) = some v ∧ H' = upd H d (.dT [])) ∨ (valV (psM P) (.inl w) = none ∧ v = .ref d ∧ H' = upd (upd H d (.dT [])) p (.dK (putK (psM P) (.inl w) (.ref d))))) :
    ∃ r P', v = .ref r ∧ LkG K H' a fM fP m p M P' ∧ getA P' w = some r ∧ P'.length ≤ P.length + 1 ∧ KeepF (foot m p M P) H H' ∧ ∀ b, foot m p M P' b → foot m p M P b ∨ H b = none := by
  rcases h with ⟨e, rfl⟩ | ⟨e, rfl, rfl⟩
  · rw [val_ps] at e
    obtain ⟨r, e2, rfl⟩ := Option.map_eq_some_iff.mp e
    clear e
    have e := e2
    exact ⟨r, P, rfl, g.same fun b o _ h => same_new nd _ _ h, e, Nat.le_succ _, KeepF.same (same_new nd), fun b h => .inl h⟩
  · rw [val_ps, Option.map_eq_none_iff] at e
    obtain ⟨g1, g2, g3⟩ := g.newP e nd
    exact ⟨d, _, rfl, g1, getA_snoc e, by rw [List.length_append]; exact Nat.le_refl _, g2, g3⟩
theorem keepF_free {F : Addr → Prop} {H H' : Hp} (k : KeepF F H H') {b : Addr} (f : ¬ F b) (h : H' b = none) : H b = none := by
  cases e : H b with
  | none => rfl
  | some o => rw [k b o f e] at h; cases h
/-- an object that is no dict stands -/
theorem LkG.stay {H H' : Hp} {a m p : Addr} {fM : Plc → List (Int × Str)} {fP : Int → List Plc} {M : List (Plc × Addr)} {P : List (Int × Addr)} (g : LkG K H a fM fP m p M P) (k : KeepF (foot m p M P) H H') {b : Addr} {o : HO} (h : H b = some o) (n1 : ∀ kv, o ≠ .dK kv) (n2 : ∀ kv, o ≠ .dT kv) : H' b = some o :=
  k b o (fun f => (g.dict f).elim (fun ⟨kv, e⟩ => n1 kv (by rw [h] at e; exact Option.some.inj e)) fun ⟨kv, e⟩ => n2 kv (by rw [h] at e; exact Option.some.inj e)) h
theorem LkG.ext {H : Hp} {a m p : Addr} {fM fM' : Plc → List (Int × Str)} {fP fP' : Int → List Plc} {M : List (Plc × Addr)} {P : List (Int × Addr)} (g : LkG K H a fM fP m p M P) (h1 : ∀ q, fM q = fM' q) (h2 : ∀ w, fP w = fP' w) : LkG K H a fM' fP' m p M P := by
  have e1 : fM = fM' := funext h1
  have e2 : fP = fP' := funext h2
  rw [← e1, ← e2]
  exact g
def sp_LockTable_take (K : PySem.W.Frag) : Sp := fun vs H Q _ => ∃ (a b : Addr) (q : Plc) (w : Int) (md : Str) (L : List Lck) (F : Addr → Prop) (n : Nat), vs = [.ref a, .ref b, .int w, .str md] ∧ H b = some (.tup (q.map kV)) ∧ LkAt K H a L F n ∧ L.length ≤ 5000 ∧ n ≤ 5000 ∧
  (blockersOf L q w md ≠ [] → ∀ H', Same H H' → Q (.bl false) H') ∧ (blockersOf L q w md = [] → ∀ (H' : Hp) (F' : Addr → Prop), KeepF F H H' → LkAt K H' a (takeL L q w md) F' (n + 1) → (∀ b, F' b → F b ∨ H b = none) → Q (.bl true) H')
theorem len_LockTable_take {vs : List V} {H : Hp} {Q : VK} {E : XK} (h : sp_LockTable_take K vs H Q E) : vs.length = 4 := by
  obtain ⟨_, _, _, _, _, _, _, _, rfl, _⟩ := h
  rfl
theorem ok_LockTable_take {f : Addr} {fd : FuncData} {f_LockTable_blockers : Addr} {fd_LockTable_blockers : FuncData} (F : Fun K "take" "LockTable.take" s_LockTable_take f fd) (T : Gs K mg a_LockTable) (c_LockTable_blockers : CalM P w K mg base CX0 2 a_LockTable "blockers" f_LockTable_blockers fd_LockTable_blockers ["self", "place", "writer", "mode"] (sp_LockTable_blockers K)) : FnOk P w K mg base CX0 3 f fd ["self", "place", "writer", "mode"] (sp_LockTable_take K) := by
  refine F.ok sc_LockTable_take (fun vs H Q E h => len_LockTable_take h) (fun cdv A outer s H vs Q E hr h => ?_)
  obtain ⟨a, b, q, w, md, L, F, n, rfl, hb, hL, few, nf, q1, q2⟩ := h
  refine ⟨_, (pss_cons (ps_if (pt_c op_gtM (pe_callB (lenK K) (by rfl) T.z_len PySem.boot_len (pa_cons (pe_meth (v_ 0) c_LockTable_blockers.cl c_LockTable_blockers.me c_LockTable_blockers.G (hr.mono (by first | decide | omega)) c_LockTable_blockers.b .nil pass0 (pa_cons (v_ 1) (pa_cons (v_ 2) (pa_cons (v_ 3) pa_nil)))) pa_nil)) pe_int) (pss_one (ps_ret pe_bl)) pss_nil) (pss_cons (ps_set (i := 4) sc_LockTable_take.nd rfl (.inl rfl) (pe_dsetdT hr.units (e_f K (v_ 0)) (v_ 1) pe_dnewK ⟨rfl, rfl, rfl, rfl⟩)) (Evl.pss_cut (ps_if (pt_c (neK K hr.units) (pe_dget1 (hu_of hr) (v_ 4) (v_ 2) ⟨rfl, rfl, rfl, rfl⟩) pe_str) (pss_one (ps_asg (v_ 3) (pg_sub (v_ 4) (v_ 2) (set_dict (hu_of hr))))) pss_nil) (pss_cons (ps_set (i := 5) sc_LockTable_take.nd rfl (.inl rfl) (pe_dsetd (e_f K (v_ 0)) (v_ 2) pe_dnewT ⟨rfl, rfl, rfl, rfl⟩)) (pss_cons (ps_asg pe_bl (pg_sub (v_ 5) (v_ 1) (set_dict (hu_of hr)))) (pss_one (ps_ret pe_bl))))))), ?_⟩
  obtain ⟨m, p, M, P, g, ok, rfl, lM, lP⟩ := id hL
  obtain ⟨C, dx, hC, ha⟩ := g.ins
  cases hC.symm.trans T.n_LockTable
  refine ⟨a, dx, _, rfl, ha, rfl, a, b, q, w, md, L, _, n, rfl, hb, hL, few, fun H1 r s1 nr hr1 => ?_⟩
  refine .inl ⟨_, .inl (SqL.of hr1), ?_⟩
  rw [List.length_map]
  refine ite2 (fun c => ?_) (fun c => ?_)
  · have c : (0 : Int) < (blockersOf L q w md).length := of_decide_eq_true c
    exact q1 (fun e => by rw [e] at c; exact absurd c (by decide)) H1 s1
  have c : ¬ (0 : Int) < (blockersOf L q w md).length := of_decide_eq_false (Bool.eq_false_iff.mpr c)
  have be : blockersOf L q w md = [] := List.length_eq_zero_iff.mp (by omega)
  replace q2 := q2 be
  clear q1 c be hr1 nr
  have g1 := g.same (H' := H1) fun b o _ h => s1 b o h
  have hb1 := s1 _ _ hb
  have k1 : KeepF (foot m p M P) H H1 := KeepF.same s1
  -- the modes of the place
  refine ⟨a, a_LockTable, dx, _, _, rfl, s1 _ _ ha, T.cl_LockTable, T.na_LockTable__modes, rfl, ?_⟩
  refine ⟨m, rfl, .inr ⟨_, .inl g1.hm⟩, fun d nd => ?_⟩
  have sd := same_new (o := .dK []) nd
  refine ⟨msM M, q, b, sd _ _ g1.hm, rfl, sd _ _ hb1, line_lt (by unfold msM; rw [List.length_map]; omega), setd_split fun v H2 h2 => ?_⟩
  obtain ⟨r, M2, rfl, g2, er, l2, k2, f2⟩ := g1.getM nd h2
  clear h2 sd
  have hr2 := g2.iM q r (getA_mem er)
  have hb2 := g1.stay k2 hb1 (fun _ e => nomatch e) (fun _ e => nomatch e)
  have k12 := k1.trans k2 fun b h => .inl h
  have ff2 : ∀ b, foot m p M2 P b → foot m p M P b ∨ H b = none := fun b h => (f2 b h).imp id fun e => Same.free s1 e
  refine ⟨fun σ' H' => σ' = [some (.ref a), some (.ref b), some (.int w), some (.str md), some (.ref r), none] ∧ LkG K H' a (atP (takeL L q w md)) (heldW L) m p M2 P ∧ KeepF (foot m p M2 P) H2 H', ?_, ?_⟩
  · have wm := mem_at_held (L := L) (q := q) (w := w)
    have up : LkG K (upd H2 r (.dK (putK (kvM (atP L q)) (.inl w) (.str md)))) a (fun s => if s = q then (if w ∈ (atP L q).map (·.1) then (atP L q).map fun p => if p.1 = w then (p.1, md) else p else atP L q ++ [(w, md)]) else atP L s) (heldW L) m p M2 P ∧ KeepF (foot m p M2 P) H2 (upd H2 r (.dK (putK (kvM (atP L q)) (.inl w) (.str md)))) := by
      rw [put_kvM, ← apply_ite kvM]
      exact g2.setM er _
    refine ⟨r, rfl, .inl ⟨_, .inl hr2⟩, _, DGet.k (k := .inl w) hr2, ?_⟩
    rw [val_kvM]
    have kl : (kvM (atP L q)).length ≤ 5000 := by
      have := at_len (L := L) (q := q)
      unfold kvM
      rw [List.length_map]
      omega
    cases hf : (atP L q).find? fun p => decide (p.1 = w) with
    | none =>
      have nw : w ∉ (atP L q).map (·.1) := fun h => by
        obtain ⟨x, hx, e⟩ := List.mem_map.mp h
        exact List.find?_eq_none.mp hf x hx (decide_eq_true e)
      refine ⟨r, _, rfl, DPut.k (k := .inl w) hr2 (line_lt (by omega)), rfl, up.1.ext (fun s => ?_) (fun _ => rfl), up.2⟩
      rw [at_take, if_neg nw, if_neg fun h => nw (wm.mpr h)]
    | some x =>
      have xm := List.mem_of_find?_eq_some hf
      have xw : x.1 = w := of_decide_eq_true (List.find?_some (p := fun p : Int × Str => decide (p.1 = w)) hf)
      have iw : w ∈ (atP L q).map (·.1) := List.mem_map.mpr ⟨x, xm, xw⟩
      have one : ∀ y ∈ atP L q, y.1 = w → y = x := fun y hy e => by
        obtain ⟨i, hi, ei⟩ := List.getElem_of_mem hy
        obtain ⟨j, hj, ej⟩ := List.getElem_of_mem xm
        have : i = j := (List.getElem?_inj (by rw [List.length_map]; exact hi) (ok.at q)).mp (by rw [List.getElem?_map, List.getElem?_map, List.getElem?_eq_getElem hi, List.getElem?_eq_getElem hj, ei, ej]; exact congrArg some (e.trans xw.symm))
        subst this
        rw [← ei, ← ej]
      refine ite2 (fun c => ?_) (fun c => ?_)
      · have c : x.2 ≠ ("hold" : Str) := by
          have c : (!decide (x.2 = ("hold" : Str))) = true := c
          simpa using c
        refine ⟨r, _, rfl, DPut.k (k := .inl w) hr2 (line_lt (by omega)), rfl, up.1.ext (fun s => ?_) (fun _ => rfl), up.2⟩
        rw [at_take, if_pos iw, if_pos (wm.mp iw)]
        by_cases e : s = q
        · rw [if_pos e, if_pos e]
          refine List.map_congr_left fun y hy => ?_
          by_cases e2 : y.1 = w
          · rw [if_pos e2, if_pos e2, one y hy e2]
            unfold modeUp
            rw [if_neg c]
          · rw [if_neg e2, if_neg e2]
        · rw [if_neg e, if_neg e]
      · have c : x.2 = ("hold" : Str) := by
          have c : ¬ (!decide (x.2 = ("hold" : Str))) = true := c
          simpa using c
        refine ⟨rfl, g2.ext (fun s => ?_) (fun _ => rfl), fun b o _ h => h⟩
        rw [at_take, if_pos (wm.mp iw)]
        by_cases e : s = q
        · rw [if_pos e, e]
          conv => lhs; rw [← List.map_id (atP L q)]
          refine List.map_congr_left fun y hy => ?_
          by_cases e2 : y.1 = w
          · rw [if_pos e2, one y hy e2]
            unfold modeUp
            rw [if_pos c]
            rfl
          · rw [if_neg e2]
            rfl
        · rw [if_neg e]
  rintro σ' H3 ⟨rfl, g3, k3⟩
  have k13 := k12.trans k3 ff2
  have hb3 := g2.stay k3 hb2 (fun _ e => nomatch e) (fun _ e => nomatch e)
  clear g2 k2 k3 hr2 hb2 er k12 f2 k1 g1 hb1
  obtain ⟨C3, dx3, hC3, ha3⟩ := g3.ins
  cases hC3.symm.trans T.n_LockTable
  -- the places of the writer
  refine ⟨a, a_LockTable, dx3, _, _, rfl, ha3, T.cl_LockTable, T.na_LockTable__places, rfl, ?_⟩
  refine ⟨p, rfl, .inl ⟨_, .inl g3.hp⟩, fun d nd => ?_⟩
  have sd := same_new (o := .dT []) nd
  refine ⟨psM P, .inl w, sd _ _ g3.hp, rfl, line_lt (by unfold psM; rw [List.length_map]; omega), setd_splitK fun v H4 h4 => ?_⟩
  obtain ⟨r2, P2, rfl, g4, er2, l4, k4, f4⟩ := g3.getP nd h4
  clear h4 sd
  have hr4 := g4.iP w r2 (getA_mem er2)
  have hb4 := g3.stay k4 hb3 (fun _ e => nomatch e) (fun _ e => nomatch e)
  have kl : (kvP (heldW L w)).length ≤ 5000 := by
    have := held_len (L := L) (w := w)
    unfold kvP
    rw [List.length_map]
    omega
  have up : LkG K (upd H4 r2 (.dT (putK (kvP (heldW L w)) q (.bl true)))) a (atP (takeL L q w md)) (fun v => if v = w then (if q ∈ heldW L w then heldW L w else heldW L w ++ [q]) else heldW L v) m p M2 P2 ∧ KeepF (foot m p M2 P2) H4 (upd H4 r2 (.dT (putK (kvP (heldW L w)) q (.bl true)))) := by
    rw [put_kvP]
    exact g4.setP er2 _
  refine ⟨r2, _, rfl, DPut.t hr4 hb4 (line_lt (by omega)), ?_⟩
  have fin := up.1.ext (fM' := atP (takeL L q w md)) (fP' := heldW (takeL L q w md)) (fun _ => rfl) fun v => by
    rw [held_take]
    by_cases e : v = w
    · subst e
      rw [if_pos rfl]
      by_cases i : q ∈ heldW L v
      · rw [if_pos i, if_neg fun z => z.2 i]
      · rw [if_neg i, if_pos ⟨rfl, i⟩]
    · rw [if_neg e, if_neg fun z => e z.1]
  have n4 : ∀ b, foot m p M2 P2 b → foot m p M P b ∨ H b = none := fun b h => (f4 b h).elim (ff2 b) fun e => by
    by_cases f : foot m p M P b
    · exact .inl f
    · exact .inr (keepF_free k13 f e)
  refine q2 _ _ ((k13.trans k4 ff2).trans up.2 n4) ⟨m, p, M2, P2, fin, take_ok ok q w md, rfl, by omega, by omega⟩ n4
end
section
variable {P : Program} {w : World} {K : PySem.W.Frag} {mg : Str → Option Value} {base : Heap}
variable {a_LockTable : Addr}
/-! ### LockTable.held -/
/-- a place as a tuple -/
def KyT (H : Hp) (v : V) (k : Plc) : Prop := ∃ t, v = .ref t ∧ H t = some (.tup (k.map kV))
theorem KyT.same {H H' : Hp} {v : V} {k : Plc} (h : KyT H v k) (s : Same H H') : KyT H' v k := by
  obtain ⟨t, e, h⟩ := h
  exact ⟨t, e, s _ _ h⟩
theorem KyT.ky {H : Hp} {v : V} {k : Plc} (h : KyT H v k) : KyAt K H v k := by
  obtain ⟨t, e, h⟩ := h
  exact ⟨t, e, SqT.of h⟩
theorem KyT.keep {H : Hp} {a : Addr} {o : HO} {v : V} {k : Plc} (h : KyT H v k) (n : ∀ xs, H a ≠ some (.tup xs)) : KyT (upd H a o) v k := by
  obtain ⟨t, e, h⟩ := h
  exact ⟨t, e, by rw [upd_ne fun z => n _ (z ▸ h)]; exact h⟩
theorem kys_in {H : Hp} {vs : List V} {ks : List Plc} (h : All2 (KyT H) vs ks) : KysIn K H vs ks := by
  induction h with
  | nil => exact .nil
  | cons a _ ih => exact .cons a.ky ih
theorem keys_all {H : Hp} : ∀ {qs : List Plc} {bs : List Addr}, IsKeys H (kvP qs) bs → All2 (KyT H) (bs.map V.ref) qs
  | [], [], _ => .nil
  | [], _ :: _, h => nomatch h
  | _ :: _, [], h => nomatch h
  | _ :: _, b :: _, .cons h r => .cons ⟨b, rfl, h⟩ (keys_all r)
def sp_LockTable_held (K : PySem.W.Frag) : Sp := fun vs H Q _ => ∃ (a : Addr) (w : Int) (L : List Lck) (F : Addr → Prop) (n : Nat), vs = [.ref a, .int w] ∧ LkAt K H a L F n ∧
  ∀ (H' : Hp) (r : Addr) (ys : List V), Same H H' → H r = none → H' r = some (.lst ys) → All2 (KyT H') ys (heldW L w) → Q (.ref r) H'
theorem len_LockTable_held {vs : List V} {H : Hp} {Q : VK} {E : XK} (h : sp_LockTable_held K vs H Q E) : vs.length = 2 := by
  obtain ⟨_, _, _, _, _, rfl, _⟩ := h
  rfl
theorem ok_LockTable_held {f : Addr} {fd : FuncData} (F : Fun K "held" "LockTable.held" s_LockTable_held f fd) (T : Gs K mg a_LockTable) : FnOk P w K mg base CX0 1 f fd ["self", "writer"] (sp_LockTable_held K) := by
  refine F.ok sc_LockTable_held (fun vs H Q E h => len_LockTable_held h) (fun cdv A outer s H vs Q E hr h => ?_)
  obtain ⟨a, w, L, F, n, rfl, ⟨m, p, M, P, g, ok, rfl, _⟩, qq⟩ := h
  obtain ⟨C, dx, hC, ha⟩ := g.ins
  cases hC.symm.trans T.n_LockTable
  refine ⟨_, (pss_one (ps_ret (pe_callTy (call_list_dT rfl) (by rfl) T.z_list (by decide +kernel) (pa_cons (pe_dget2 (hu_of hr) (e_f K (v_ 0)) (v_ 1) pe_dnewT ⟨rfl, rfl, rfl, rfl⟩) pa_nil)))), ?_⟩
  refine ⟨a, a_LockTable, dx, _, _, rfl, ha, T.cl_LockTable, T.na_LockTable__places, rfl, ?_⟩
  refine ⟨p, rfl, .inl ⟨_, .inl g.hp⟩, fun d nd => ?_⟩
  have s1 := same_new (o := .dT []) nd
  refine ⟨_, DGet.k (k := .inl w) (s1 _ _ g.hp), ?_⟩
  rw [val_ps]
  obtain ⟨r, er, hr0⟩ : ∃ r, (((getA P w).map V.ref).getD (.ref d) = .ref r) ∧ (upd H d (.dT [])) r = some (.dT (kvP (heldW L w))) := by
    cases e : getA P w with
    | some r => exact ⟨r, rfl, s1 _ _ (g.iP w r (getA_mem e))⟩
    | none => exact ⟨d, rfl, by rw [upd_same, g.oP w (getA_none e)]; rfl⟩
  rw [er]
  refine ⟨r, _, rfl, .inl hr0, fun l bs nl hbs => ?_⟩
  have s2 := s1.trans (same_new (o := .lst (bs.map V.ref)) nl)
  exact qq _ l _ s2 (free_new nl) upd_same ((keys_all hbs).imp fun v k h => h.same (same_new nl))
/-! ### LockTable.free -/
def sp_LockTable_free (K : PySem.W.Frag) : Sp := fun vs H Q _ => ∃ (a b : Addr) (q : Plc) (w : Int) (L : List Lck) (F : Addr → Prop) (n : Nat), vs = [.ref a, .ref b, .int w] ∧ H b = some (.tup (q.map kV)) ∧ LkAt K H a L F n ∧
  (q ∉ heldW L w → ∀ H', Same H H' → Q (.bl false) H') ∧ (q ∈ heldW L w → ∀ (H' : Hp), KeepF F H H' → LkAt K H' a (freeL L q w) F n → Q (.bl true) H')
theorem len_LockTable_free {vs : List V} {H : Hp} {Q : VK} {E : XK} (h : sp_LockTable_free K vs H Q E) : vs.length = 3 := by
  obtain ⟨_, _, _, _, _, _, _, rfl, _⟩ := h
  rfl
theorem mem_keyM {M : List (Plc × Addr)} {q : Plc} (h : q ∈ M.map (·.1)) : ∃ r, getA M q = some r := by
  cases e : getA M q with
  | some r => exact ⟨r, rfl⟩
  | none => exact absurd h (getA_none e)
theorem mem_keyP {P : List (Int × Addr)} {w : Int} (h : w ∈ P.map (·.1)) : ∃ r, getA P w = some r := by
  cases e : getA P w with
  | some r => exact ⟨r, rfl⟩
  | none => exact absurd h (getA_none e)
theorem ok_LockTable_free {f : Addr} {fd : FuncData} (F : Fun K "free" "LockTable.free" s_LockTable_free f fd) (T : Gs K mg a_LockTable) : FnOk P w K mg base CX0 1 f fd ["self", "place", "writer"] (sp_LockTable_free K) := by
  refine F.ok sc_LockTable_free (fun vs H Q E h => len_LockTable_free h) (fun cdv A outer s H vs Q E hr h => ?_)
  obtain ⟨a, b, q, w, L, F, n, rfl, hb, ⟨m, p, M, P, g, ok, rfl, lM, lP⟩, q1, q2⟩ := h
  obtain ⟨C, dx, hC, ha⟩ := g.ins
  cases hC.symm.trans T.n_LockTable
  refine ⟨_, (pss_cons (ps_if (pt_cmp (pc_dnotin (hu_of hr) (v_ 1) (pe_dget2 (hu_of hr) (e_f K (v_ 0)) (v_ 2) pe_dnewT ⟨rfl, rfl, rfl, rfl⟩))) (pss_one (ps_ret pe_bl)) pss_nil) (pss_cons (ps_ddel (pe_dget (hu_of hr) (e_f K (v_ 0)) (v_ 1) (fun _ _ => rfl)) (v_ 2)) (pss_cons (ps_ddelT hr.units (pe_dget (hu_of hr) (e_f K (v_ 0)) (v_ 2) (fun _ _ => rfl)) (v_ 1)) (pss_one (ps_ret pe_bl))))), ?_⟩
  refine ⟨a, a_LockTable, dx, _, _, rfl, ha, T.cl_LockTable, T.na_LockTable__places, rfl, ?_⟩
  refine ⟨p, rfl, .inl ⟨_, .inl g.hp⟩, fun d nd => ?_⟩
  have s1 := same_new (o := .dT []) nd
  refine ⟨_, DGet.k (k := .inl w) (s1 _ _ g.hp), ?_⟩
  rw [val_ps]
  obtain ⟨r, er, hr0⟩ : ∃ r, (((getA P w).map V.ref).getD (.ref d) = .ref r) ∧ (upd H d (.dT [])) r = some (.dT (kvP (heldW L w))) := by
    cases e : getA P w with
    | some r => exact ⟨r, rfl, s1 _ _ (g.iP w r (getA_mem e))⟩
    | none => exact ⟨d, rfl, by rw [upd_same, g.oP w (getA_none e)]; rfl⟩
  rw [er]
  refine ⟨r, _, rfl, DGet.t hr0 (s1 _ _ hb), ?_⟩
  rw [val_kvP]
  by_cases c : q ∉ heldW L w
  · rw [if_neg c]
    exact ⟨_, rfl, q1 c _ s1⟩
  have c : q ∈ heldW L w := Classical.byContradiction c
  rw [if_pos c]
  refine ⟨_, rfl, ?_⟩
  replace q2 := q2 c
  clear q1 er hr0
  have g1 := g.same (H' := upd H d (.dT [])) fun b o _ h => s1 b o h
  have hb1 := s1 _ _ hb
  have ha1 := s1 _ _ ha
  have k1 : KeepF (foot m p M P) H (upd H d (.dT [])) := KeepF.same s1
  generalize upd H d (.dT []) = H1 at g1 hb1 ha1 k1 ⊢
  have wm : w ∈ (atP L q).map (·.1) := mem_at_held.mpr c
  have am : atP L q ≠ [] := fun e => by rw [e] at wm; exact nomatch wm
  have hm : heldW L w ≠ [] := fun e => by rw [e] at c; exact nomatch c
  obtain ⟨rm, em⟩ : ∃ r, getA M q = some r := by
    by_cases h : q ∈ M.map (·.1)
    · exact mem_keyM h
    · exact absurd (g1.oM q h) am
  obtain ⟨rp, ep⟩ : ∃ r, getA P w = some r := by
    by_cases h : w ∈ P.map (·.1)
    · exact mem_keyP h
    · exact absurd (g1.oP w h) hm
  have hrm := g1.iM q rm (getA_mem em)
  -- del self._modes[place][writer]
  refine ⟨a, a_LockTable, dx, _, _, rfl, ha1, T.cl_LockTable, T.na_LockTable__modes, rfl, ?_⟩
  refine ⟨m, .ref rm, rfl, by have := DGet.t (k := q) g1.hm hb1; rw [val_ms, em] at this; exact this, ?_⟩
  refine ⟨rm, _, .inl w, rfl, hrm, rfl, ?_, ?_⟩
  · rw [val_kvM]
    obtain ⟨x, hx, e⟩ := List.mem_map.mp wm
    cases hf : (atP L q).find? fun p => decide (p.1 = w) with
    | some y => rfl
    | none => exact absurd (decide_eq_true e) (List.find?_eq_none.mp hf x hx)
  rw [drop_kvM]
  obtain ⟨g2, k2⟩ := g1.setM em ((atP L q).filter fun p => !decide (p.1 = w))
  have hb2 := g1.stay k2 hb1 (fun _ e => nomatch e) (fun _ e => nomatch e)
  have k12 := k1.trans k2 fun b h => .inl h
  generalize upd H1 rm (.dK (kvM ((atP L q).filter fun p => !decide (p.1 = w)))) = H2 at g2 k2 hb2 k12 ⊢
  obtain ⟨C2, dx2, hC2, ha2⟩ := g2.ins
  cases hC2.symm.trans T.n_LockTable
  have hrp := g2.iP w rp (getA_mem ep)
  -- del self._places[writer][place]
  refine ⟨a, a_LockTable, dx2, _, _, rfl, ha2, T.cl_LockTable, T.na_LockTable__places, rfl, ?_⟩
  refine ⟨p, .ref rp, rfl, by have := DGet.k (k := .inl w) g2.hp; rw [val_ps, ep] at this; exact this, ?_⟩
  refine ⟨rp, b, _, q, rfl, rfl, hrp, hb2, by rw [val_kvP, if_pos c]; rfl, ?_⟩
  rw [drop_kvP]
  obtain ⟨g3, k3⟩ := g2.setP ep ((heldW L w).filter fun r => !decide (r = q))
  refine q2 _ (k12.trans k3 fun b h => .inl h) ⟨m, p, M, P, g3.ext (fun s => ?_) (fun v => ?_), free_ok ok q w, rfl, lM, lP⟩
  · rw [at_free]
  · rw [held_free]
/-! ### LockTable.free_all -/
def freeAllL (L : List Lck) (w : Int) (ks : List Plc) : List Lck := L.filter fun l => !decide (l.2.1 = w) || decide (l.1 ∈ ks)
theorem free_all_step {L : List Lck} {w : Int} {qs : List Plc} {q : Plc} : freeL (L.filter fun l => !(decide (l.2.1 = w) && decide (l.1 ∈ qs))) q w = L.filter fun l => !(decide (l.2.1 = w) && decide (l.1 ∈ qs ++ [q])) := by
  unfold freeL
  rw [List.filter_filter]
  refine List.filter_congr fun l _ => ?_
  have : decide (l.1 ∈ qs ++ [q]) = (decide (l.1 ∈ qs) || decide (l.1 = q)) := by
    rw [Bool.eq_iff_iff, Bool.or_eq_true, decide_eq_true_iff, decide_eq_true_iff, decide_eq_true_iff, List.mem_append, List.mem_singleton]
  rw [this]
  cases decide (l.1 = q) <;> cases decide (l.2.1 = w) <;> cases decide (l.1 ∈ qs) <;> rfl
theorem free_all_end {L : List Lck} {w : Int} {ks : List Plc} : (L.filter fun l => !(decide (l.2.1 = w) && decide (l.1 ∈ (heldW L w).filter fun q => !decide (q ∈ ks)))) = freeAllL L w ks := by
  unfold freeAllL
  refine List.filter_congr fun l hl => ?_
  by_cases e : l.2.1 = w
  · rw [decide_eq_true e, Bool.true_and]
    have : decide (l.1 ∈ (heldW L w).filter fun q => !decide (q ∈ ks)) = !decide (l.1 ∈ ks) := by
      rw [Bool.eq_iff_iff, decide_eq_true_iff, List.mem_filter]
      exact ⟨fun h => h.2, fun h => ⟨mem_held.mpr ⟨l.2.2, by rw [← e]; exact hl⟩, h⟩⟩
    rw [this, Bool.not_not]
    rfl
  · rw [decide_eq_false e]
    rfl
def sp_LockTable_free_all (K : PySem.W.Frag) : Sp := fun vs H Q _ => ∃ (a t : Addr) (w : Int) (us : List V) (ks : List Plc) (L : List Lck) (F : Addr → Prop) (n : Nat), vs = [.ref a, .int w, .ref t] ∧ H t = some (.tup us) ∧ All2 (KyT H) us ks ∧ LkAt K H a L F n ∧ L.length ≤ 5000 ∧
  ∀ (H' : Hp), KeepF F H H' → LkAt K H' a (freeAllL L w ks) F n → Q (.int (((heldW L w).filter fun q => !decide (q ∈ ks)).length : Int)) H'
theorem len_LockTable_free_all {vs : List V} {H : Hp} {Q : VK} {E : XK} (h : sp_LockTable_free_all K vs H Q E) : vs.length = 3 := by
  obtain ⟨_, _, _, _, _, _, _, _, rfl, _⟩ := h
  rfl
theorem LkAt.stay {H H' : Hp} {a : Addr} {L : List Lck} {F : Addr → Prop} {n : Nat} (g : LkAt K H a L F n) (k : KeepF F H H') {b : Addr} {o : HO} (h : H b = some o) (n1 : ∀ kv, o ≠ .dK kv) (n2 : ∀ kv, o ≠ .dT kv) : H' b = some o :=
  k b o (fun f => (g.dict f).elim (fun ⟨kv, e⟩ => n1 kv (by rw [h] at e; exact Option.some.inj e)) fun ⟨kv, e⟩ => n2 kv (by rw [h] at e; exact Option.some.inj e)) h
theorem KyT.stay {H H' : Hp} {a : Addr} {L : List Lck} {F : Addr → Prop} {n : Nat} {v : V} {q : Plc} (h : KyT H v q) (g : LkAt K H a L F n) (k : KeepF F H H') : KyT H' v q := by
  obtain ⟨t, e, h⟩ := h
  exact ⟨t, e, g.stay k h (fun _ e => nomatch e) (fun _ e => nomatch e)⟩
theorem ok_LockTable_free_all {f : Addr} {fd : FuncData} {f_LockTable_free : Addr} {fd_LockTable_free : FuncData} {f_LockTable_held : Addr} {fd_LockTable_held : FuncData} (F : Fun K "free_all" "LockTable.free_all" s_LockTable_free_all f fd) (T : Gs K mg a_LockTable) (c_LockTable_free : CalM P w K mg base CX0 1 a_LockTable "free" f_LockTable_free fd_LockTable_free ["self", "place", "writer"] (sp_LockTable_free K)) (c_LockTable_held : CalM P w K mg base CX0 1 a_LockTable "held" f_LockTable_held fd_LockTable_held ["self", "writer"] (sp_LockTable_held K)) : FnR P w K mg base CX0 2 f (spV 2 (sp_LockTable_free_all K)) := by
  refine Fun.okV0 (ps := ["self", "writer"]) (pv := "kept") F sc_LockTable_free_all (fun kV doc pm an cdv ct => (StX.bind_star2 (B := fun l => bindArgs (PySem.W.fnOf "free_all" "LockTable.free_all" (defArgs s_LockTable_free_all) (defBody s_LockTable_free_all) (defScope s_LockTable_free_all) .none kV doc pm an cdv ct) ⟨l, []⟩) (fun _ _ => rfl) (fun _ _ _ _ => rfl))) (fun cdv A outer s H vs Q E hr h => ?_)
  obtain ⟨a, t, w, us, ks, L, F, n, rfl, ht, hus, hL, few, qq⟩ := h
  refine ⟨_, (pss_cons (ps_setLc (i := 3) (own := [("place", 4)]) (g := gName 4) (by rfl) sc_LockTable_free_all.nd rfl rfl (sw_true rfl rfl rfl (by decide +kernel)) (pi_list (pe_meth (v_ 0) c_LockTable_held.cl c_LockTable_held.me c_LockTable_held.G (hr.mono (by first | decide | omega)) c_LockTable_held.b .nil pass0 (pa_cons (v_ 1) pa_nil))) (blkOk_by (N := ["self", "writer", "kept", "freed", "place"]) (sc := defScope s_LockTable_free_all) (by decide +kernel)) (fun _ _ _ _ _ => pg_name (i := 4) sc_LockTable_free_all.nd rfl (Or.inl rfl)) (fun _ _ _ _ _ => pts_one (pt_c (notInKy K hr.units) (v_ 4) (v_ 2))) (fun _ _ _ _ _ => (v_ 4))) (pss_cons (ps_for PassesOwn.never rfl (pi_list (v_ 3)) (pg_name (i := 4) sc_LockTable_free_all.nd rfl (.inl rfl)) (pss_one (ps_expr (pe_meth (v_ 0) c_LockTable_free.cl c_LockTable_free.me c_LockTable_free.G (hr.mono (by first | decide | omega)) c_LockTable_free.b .nil pass0 (pa_cons (v_ 4) (pa_cons (v_ 1) pa_nil)))))) (pss_one (ps_ret (pe_callB (lenK K) (by rfl) T.z_len PySem.boot_len (pa_cons (v_ 3) pa_nil)))))), ?_⟩
  obtain ⟨C, dx, hC, ha⟩ : ∃ C dx : Addr, PySem.W.nsIn K mainGlobals "LockTable" = some (some (.ref C)) ∧ ∃ fs, fs.lookup ("held" : Str) = none ∧ fs.lookup ("free" : Str) = none ∧ H a = some (.ins C dx fs) := by
    obtain ⟨m, p, M, P, g, _⟩ := id hL
    obtain ⟨C, dx, h1, h2⟩ := g.ins
    exact ⟨C, dx, h1, _, rfl, rfl, h2⟩
  cases hC.symm.trans T.n_LockTable
  obtain ⟨fs, f1, f2, ha⟩ := ha
  refine ⟨a, dx, fs, rfl, ha, f1, a, w, L, F, n, rfl, hL, fun H1 r ys s1 nr hr1 hys => ?_⟩
  have hl := held_len (L := L) (w := w)
  have yl := hys.len
  have ht1 := s1 _ _ ht
  have hus1 := kys_in (K := K) (hus.imp fun v k h => h.same s1)
  refine ⟨r, rfl, ⟨_, SqL.of hr1⟩, fun D nD => ?_⟩
  refine lc_it (walk_list (xs := ys)) (fun i H' => Same H1 H' ∧ ∃ zs, H' D = some (.lst zs) ∧ All2 (KyT H') zs (((heldW L w).take i).filter fun x => !decide (x ∈ ks))) ⟨same_new nD, [], upd_same, .nil⟩ (fun _ _ _ h => SqL.of (h.1 _ _ hr1)) ?_ ?_
  · rintro i v H2 H3 hi ⟨s2, zs, hD, hzs⟩ ⟨rfl, hv⟩
    obtain ⟨x, e, hx⟩ := hys.at hv
    have hx := hx.same s2
    have zl := hzs.len
    have fl := List.length_filter_le (fun x : Plc => !decide (x ∈ ks)) ((heldW L w).take i)
    rw [List.length_take] at fl
    have hin := kys_in (K := K) (hus.imp fun v k h => h.same (s1.trans s2))
    refine ⟨rfl, x, t, us, ks, hx.ky, rfl, .inl (SqT.of (s2 _ _ ht1)), hin, ?_⟩
    refine ite2 (fun c => ?_) (fun c => ?_)
    · have nt : ∀ xs, H3 D ≠ some (.tup xs) := fun xs e => by rw [hD] at e; cases e
      refine ⟨zs, hD, line_lt (by omega), fun b o hb => by rw [upd_ne (ne_of_none hb nD)]; exact s2 _ _ hb, zs ++ [v], upd_same, ?_⟩
      rw [take_snoc e, List.filter_append, List.filter_cons_of_pos (by exact c)]
      exact (hzs.imp fun v k h => h.keep nt).snoc (hx.keep nt)
    · refine ⟨s2, zs, hD, ?_⟩
      rw [take_snoc e, List.filter_append, List.filter_cons_of_neg (by exact c), List.filter_nil, List.append_nil]
      exact hzs
  rintro H2 ⟨s2, zs, hD, hzs⟩
  rw [yl, List.take_length] at hzs
  have s12 := s1.trans s2
  have zl := hzs.len
  have fl := List.length_filter_le (fun x : Plc => !decide (x ∈ ks)) (heldW L w)
  refine ⟨D, rfl, ⟨_, SqL.of hD⟩, ?_⟩
  generalize hqs : (heldW L w).filter (fun x => !decide (x ∈ ks)) = qs at hzs zl fl qq
  have h0 : (L.filter fun l => !(decide (l.2.1 = w) && decide (l.1 ∈ qs.take 0))) = L := by
    refine List.filter_eq_self.mpr fun l _ => ?_
    rw [List.take_zero, decide_eq_false (fun h : l.1 ∈ ([] : List Plc) => (nomatch h)), Bool.and_false]
    rfl
  refine for_list (K := K) (a := D) (xs := zs) (fun i σ' H' => (∃ y, σ' = [some (.ref a), some (.int w), some (.ref t), some (.ref D), y]) ∧ KeepF F H H' ∧ LkAt K H' a (L.filter fun l => !(decide (l.2.1 = w) && decide (l.1 ∈ qs.take i))) F n ∧ H' D = some (.lst zs) ∧ All2 (KyT H') zs qs) ⟨⟨_, rfl⟩, KeepF.same s12, by rw [h0]; exact hL.same s12, hD, hzs⟩ (fun i σ' H' _ h => SqL.of h.2.2.2.1) ?_ ?_
  · rintro i v σ' H3 hi ⟨⟨y, rfl⟩, k3, hL3, hD3, hz3⟩
    obtain ⟨x, e, b, rfl, hb⟩ := hz3.at hi
    have hlen := List.length_filter_le (fun l : Lck => !(decide (l.2.1 = w) && decide (l.1 ∈ qs.take i))) L
    have ha3 : ∃ dx fs, fs.lookup ("free" : Str) = none ∧ H3 a = some (.ins a_LockTable dx fs) := by
      obtain ⟨m, p, M, P, g, _⟩ := id hL3
      obtain ⟨C, dx, h1, h2⟩ := g.ins
      cases h1.symm.trans T.n_LockTable
      exact ⟨dx, _, rfl, h2⟩
    obtain ⟨dx3, fs3, f3, ha3⟩ := ha3
    have nd : qs.Nodup := by
      obtain ⟨_, _, _, _, _, ok, _⟩ := id hL
      rw [← hqs]
      exact (ok.held w).sublist List.filter_sublist
    have inh : x ∈ heldW (L.filter fun l => !(decide (l.2.1 = w) && decide (l.1 ∈ qs.take i))) w := by
      have xm := List.mem_of_getElem? e
      rw [← hqs] at xm
      obtain ⟨m, hm⟩ := mem_held.mp (List.mem_filter.mp xm).1
      refine mem_held.mpr ⟨m, List.mem_filter.mpr ⟨hm, ?_⟩⟩
      have : x ∉ qs.take i := fun h => by
        obtain ⟨hi, rfl⟩ := List.getElem?_eq_some_iff.mp e
        obtain ⟨j, hj, ej⟩ := List.getElem_of_mem h
        rw [List.length_take] at hj
        rw [List.getElem_take] at ej
        exact (List.pairwise_iff_getElem.mp nd) j i (by omega) hi (by omega) ej
      show (!(decide (w = w) && decide (x ∈ qs.take i))) = true
      rw [decide_eq_false this, Bool.and_false]
      rfl
    refine ⟨a, dx3, fs3, rfl, ha3, f3, a, b, x, w, _, F, n, rfl, hb, hL3, fun no => absurd inh no, fun _ H4 k4 hL4 => ?_⟩
    rw [free_all_step, ← take_snoc e] at hL4
    exact ⟨⟨_, rfl⟩, k3.trans k4 fun b h => .inl h, hL4, hL3.stay k4 hD3 (fun _ e => nomatch e) (fun _ e => nomatch e), hz3.imp fun v k h => h.stay hL3 k4⟩
  · rintro σ' H3 ⟨⟨y, rfl⟩, k3, hL3, hD3, hz3⟩
    rw [zl, List.take_length, ← hqs, free_all_end] at hL3
    refine .inl ⟨_, .inl (SqL.of hD3), ?_⟩
    rw [zl]
    exact qq H3 k3 hL3
end
section
variable {P : Program} {w : World} {K : PySem.W.Frag} {mg : Str → Option Value} {base : Heap}
variable {a_LockTable : Addr}
def sp__law_some (K : PySem.W.Frag) : Sp := fun vs H Q _ => ∃ (st scr p : Addr) (sh : Int) (xs : List V), vs = [.ref st, .ref p, .int sh] ∧ DrAt H st scr ∧ H p = some (.lst xs) ∧ p ≠ st ∧ xs.length ≤ 60 ∧ 0 < sh ∧ sh ≤ 1000 ∧
  ∀ (H' : Hp) (D : Addr) (zs : List V), Bt st H H' → DrAt H' st scr → H D = none → H' D = some (.lst zs) → zs.Sublist xs → Q (.ref D) H'
theorem len__law_some {vs : List V} {H : Hp} {Q : VK} {E : XK} (h : sp__law_some K vs H Q E) : vs.length = 3 := by
  obtain ⟨_, _, _, _, _, rfl, _⟩ := h
  rfl
theorem ok__law_some {f : Addr} {fd : FuncData} {f__law_draw : Addr} {fd__law_draw : FuncData} (F : Fun K "_law_some" "_law_some" s__law_some f fd) (T : Gs K mg a_LockTable) (c__law_draw : Cal P w K mg base CX0 1 "_law_draw" f__law_draw fd__law_draw ["_law_state_here", "_law_many"] (sp__law_draw K)) : FnOk P w K mg base CX0 2 f fd ["_law_state_here", "_law_row", "_law_share"] (sp__law_some K) := by
  refine F.ok sc__law_some (fun vs H Q E h => len__law_some h) (fun cdv A outer s H vs Q E hr h => ?_)
  obtain ⟨st, scr, p, sh, xs, rfl, hd, hp, hne, lc, s0, s1, q⟩ := h
  refine ⟨_, (pss_one (ps_ret (pe_lc (own := [("_law_item", 3)]) (g := gName 3) (by rfl) sc__law_some.nd (pi_list (v_ 1)) (blkOk_by (N := ["_law_state_here", "_law_row", "_law_share", "_law_item"]) (sc := defScope s__law_some) (by decide +kernel)) (fun _ _ _ _ _ => pg_name (i := 3) sc__law_some.nd rfl (Or.inl rfl)) (fun _ _ _ _ _ => pts_one (pt_c op_gtM (pe_call c__law_draw.G (hr.mono (by first | decide | omega)) rfl c__law_draw.m c__law_draw.kp c__law_draw.b .nil pass0 (pa_cons (v_ 0) (pa_cons (v_ 2) pa_nil))) pe_int)) (fun _ _ _ _ _ => (v_ 3))))), ?_⟩
  refine ⟨p, rfl, ⟨_, SqL.of hp⟩, fun D nD => ?_⟩
  have Ds := hd.ne_new nD
  have Dc := hd.ne_scr nD
  refine lc_it (walk_list (xs := xs)) (fun i H' => Bt st H H' ∧ DrAt H' st scr ∧ ∃ zs : List V, H' D = some (.lst zs) ∧ zs.Sublist (xs.take i)) ⟨Bt.same (same_new nD), hd.new (same_new nD), [], upd_same, List.Sublist.refl _⟩ (fun _ _ _ h => SqL.of (h.1 _ _ hne hp)) ?_ ?_
  · rintro i v H1 H2 hi ⟨b, d, zs, hD, sb⟩ ⟨rfl, hv⟩
    refine ⟨rfl, ?_⟩
    refine ⟨st, scr, sh, rfl, d, s0, many_small s0 (by omega), fun r l r0 r1 d2 => ?_⟩
    have hD2 : upd H2 st (.lst l) D = some (.lst zs) := by rw [upd_ne Ds]; exact hD
    have b2 := b.trans (Bt.st (st := st) (o := .lst l))
    generalize upd H2 st (.lst l) = H3 at d2 hD2 b2 ⊢
    refine ite2 (fun c => ?_) (fun c => ?_)
    · refine ⟨zs, hD2, line_lt ?_, fun b o n e => ?_, d2.at Ds Dc, zs ++ [v], upd_same, ?_⟩
      · have := sb.length_le
        rw [List.length_take] at this
        omega
      · rw [upd_ne (ne_of_none e nD)]
        exact b2 b o n e
      · rw [take_snoc hv]
        exact sb.append (List.Sublist.refl _)
    · refine ⟨b2, d2, zs, hD2, ?_⟩
      rw [take_snoc hv]
      exact sb.trans (List.sublist_append_left _ _)
  · rintro H1 ⟨b, d, zs, hD, sb⟩
    rw [List.take_length] at sb
    exact q H1 D zs b d nD hD sb
/-! ### lock tables: what laws about them share -/
/-- all tuples stand -/
def TupS (H H' : Hp) : Prop := ∀ t xs, H t = some (.tup xs) → H' t = some (.tup xs)
theorem TupS.same {H H' : Hp} (s : Same H H') : TupS H H' := fun _ _ h => s _ _ h
theorem TupS.upd {H : Hp} {a : Addr} {o : HO} (n : ∀ xs, H a ≠ some (.tup xs)) : TupS H (L2.upd H a o) := fun t xs h => by
  have e : t ≠ a := fun e => n xs (by rw [← e]; exact h)
  rw [upd_ne e]
  exact h
theorem TupS.trans {H H1 H2 : Hp} (a : TupS H H1) (b : TupS H1 H2) : TupS H H2 := fun _ _ h => b _ _ (a _ _ h)
theorem KyT.tup {H H' : Hp} {v : V} {k : Plc} (h : KyT H v k) (s : TupS H H') : KyT H' v k := by
  obtain ⟨t, e, h⟩ := h
  exact ⟨t, e, s _ _ h⟩
theorem PrA.tup {H H' : Hp} {v : V} {p : Int × Str} (h : PrA H v p) (s : TupS H H') : PrA H' v p := by
  obtain ⟨t, e, h⟩ := h
  exact ⟨t, e, s _ _ h⟩
theorem perm_eq : ∀ {l m : List Int}, l.Perm m → l.Pairwise (· ≤ ·) → m.Pairwise (· ≤ ·) → l = m
  | [], m, p, _, _ => by rw [List.nil_perm.mp p]
  | a :: l, [], p, _, _ => absurd p.length_eq (by simp)
  | a :: l, b :: m, p, h1, h2 => by
    obtain ⟨x1, x2⟩ := List.pairwise_cons.mp h1
    obtain ⟨y1, y2⟩ := List.pairwise_cons.mp h2
    have ab : a = b := by
      have ha : a ∈ b :: m := p.mem_iff.mp List.mem_cons_self
      have hb : b ∈ a :: l := p.mem_iff.mpr List.mem_cons_self
      rcases List.mem_cons.mp ha with e | e
      · exact e
      · rcases List.mem_cons.mp hb with e2 | e2
        · exact e2.symm
        · have := x1 b e2
          have := y1 a e
          omega
    subst ab
    rw [perm_eq (List.perm_cons a |>.mp p) x2 y2]
theorem holders_sorted {L : List Lck} {q : Plc} : (holdersOf L q).Pairwise fun a b => a.1 ≤ b.1 := by
  have := List.pairwise_mergeSort (le := fun a b : Int × Str => decide (a.1 ≤ b.1)) (fun a b c h1 h2 => decide_eq_true (Int.le_trans (of_decide_eq_true h1) (of_decide_eq_true h2))) (fun a b => by
    rw [Bool.or_eq_true, decide_eq_true_iff, decide_eq_true_iff]
    omega) (atP L q)
  exact this.imp fun h => of_decide_eq_true h
theorem sorted_eq : ∀ {l m : List (Int × Str)}, l.Perm m → l.Pairwise (fun a b => a.1 < b.1) → m.Pairwise (fun a b => a.1 < b.1) → l = m
  | [], m, p, _, _ => by rw [List.nil_perm.mp p]
  | a :: l, [], p, _, _ => absurd p.length_eq (by simp)
  | a :: l, b :: m, p, h1, h2 => by
    obtain ⟨x1, x2⟩ := List.pairwise_cons.mp h1
    obtain ⟨y1, y2⟩ := List.pairwise_cons.mp h2
    have ab : a = b := by
      have ha : a ∈ b :: m := p.mem_iff.mp List.mem_cons_self
      have hb : b ∈ a :: l := p.mem_iff.mpr List.mem_cons_self
      rcases List.mem_cons.mp ha with e | e
      · exact e
      · rcases List.mem_cons.mp hb with e2 | e2
        · exact e2.symm
        · have := x1 b e2
          have := y1 a e
          omega
    subst ab
    rw [sorted_eq (List.perm_cons a |>.mp p) x2 y2]
theorem holders_lt {L : List Lck} (ok : LOk L) (q : Plc) : (holdersOf L q).Pairwise fun a b => a.1 < b.1 := by
  have nd : ((holdersOf L q).map (·.1)).Nodup := ((holders_perm (L := L) (q := q)).map (·.1)).nodup_iff.mpr (ok.at q)
  refine (holders_sorted.and (List.pairwise_map.mp nd)).imp fun h => ?_
  have := h.1
  have := h.2
  omega
theorem PrAs.to {H : Hp} {vs : List V} {ps : List (Int × Str)} (h : PrAs H vs ps) {i : Nat} {p : Int × Str} (e : ps[i]? = some p) : ∃ v, vs[i]? = some v ∧ PrA H v p := by
  have l := h.len
  have il := (List.getElem?_eq_some_iff.mp e).1
  obtain ⟨q, e2, hq⟩ := h.at (List.getElem?_eq_getElem (show i < vs.length by omega))
  rw [e] at e2
  cases e2
  exact ⟨_, List.getElem?_eq_getElem (by omega), hq⟩
theorem PrAs.app {H : Hp} {vs us : List V} {ps qs : List (Int × Str)} (h : PrAs H vs ps) (k : PrAs H us qs) : PrAs H (vs ++ us) (ps ++ qs) := by
  induction h with
  | nil => exact k
  | cons b _ ih => exact .cons b ih
theorem PrAs.take {H : Hp} {vs : List V} {ps : List (Int × Str)} (h : PrAs H vs ps) : ∀ n, PrAs H (vs.take n) (ps.take n) := by
  induction h with
  | nil => intro n; rw [List.take_nil, List.take_nil]; exact .nil
  | cons a _ ih =>
    intro n
    cases n with
    | zero => exact .nil
    | succ n => exact .cons a (ih n)
theorem PrAs.drop {H : Hp} {vs : List V} {ps : List (Int × Str)} (h : PrAs H vs ps) : ∀ n, PrAs H (vs.drop n) (ps.drop n) := by
  induction h with
  | nil => intro n; rw [List.drop_nil, List.drop_nil]; exact .nil
  | cons a h ih =>
    intro n
    cases n with
    | zero => exact .cons a h
    | succ n => exact ih n
theorem keep_new {H H1 : Hp} {a : Addr} {o : HO} (n : H a = none) (s : Same H H1) : Same H (upd H1 a o) := fun b p hb => by
  rw [upd_ne (ne_of_none hb n)]
  exact s b p hb
theorem same_prs {H : Hp} {p q : Addr} {xs ys : List V} {ps : List (Int × Str)} (h1 : H p = some (.lst xs)) (h2 : H q = some (.lst ys)) (a : PrAs H xs ps) (b : PrAs H ys ps) (l : ps.length ≤ 1000) : SameV K H 24 (.ref p) (.ref q) :=
  .inr (.inr (.inl ⟨p, q, xs, ys, rfl, rfl, h1, h2, by rw [a.len, b.len], by rw [b.len]; exact l, fun i u v hu hv => by
    obtain ⟨x, ex, t, rfl, ht⟩ := a.at hu
    obtain ⟨y, ey, t2, rfl, ht2⟩ := b.at hv
    rw [ex] at ey
    cases ey
    refine same_tupN (n := 22) (SqT.of ht) (SqT.of ht2) rfl (by show 2 ≤ 1000; decide) fun i a b ha hb => ?_
    match i, ha, hb with
    | 0, ha, hb => cases ha; cases hb; exact same_int _
    | 1, ha, hb => cases ha; cases hb; exact same_str _⟩))
theorem same_kys {H : Hp} {p q : Addr} {xs ys : List V} {ks : List Plc} (h1 : H p = some (.lst xs)) (h2 : H q = some (.lst ys)) (a : All2 (KyT H) xs ks) (b : All2 (KyT H) ys ks) (l : ks.length ≤ 1000) (hk : ∀ k ∈ ks, k.length ≤ 10) : SameV K H 24 (.ref p) (.ref q) :=
  .inr (.inr (.inl ⟨p, q, xs, ys, rfl, rfl, h1, h2, by rw [a.len, b.len], by rw [b.len]; exact l, fun i u v hu hv => by
    obtain ⟨x, ex, t, rfl, ht⟩ := a.at hu
    obtain ⟨y, ey, t2, rfl, ht2⟩ := b.at hv
    rw [ex] at ey
    cases ey
    have := hk x (List.mem_of_getElem? ex)
    refine same_tupN (n := 22) (SqT.of ht) (SqT.of ht2) rfl (by rw [List.length_map]; omega) fun i a b ha hb => ?_
    rw [ha] at hb
    cases hb
    rw [List.getElem?_map] at ha
    obtain ⟨z, hz, rfl⟩ := Option.map_eq_some_iff.mp ha
    cases z with
    | inl i => exact same_int i
    | inr z => exact same_str z⟩))
theorem same_ints {H : Hp} {p q : Addr} {ns : List Int} (h1 : H p = some (.lst (ns.map V.int))) (h2 : H q = some (.lst (ns.map V.int))) (l : ns.length ≤ 1000) : SameV K H 24 (.ref p) (.ref q) :=
  .inr (.inr (.inl ⟨p, q, _, _, rfl, rfl, h1, h2, rfl, by rw [List.length_map]; exact l, fun i u v hu hv => by
    rw [hu] at hv
    cases hv
    rw [List.getElem?_map] at hu
    obtain ⟨z, hz, rfl⟩ := Option.map_eq_some_iff.mp hu
    exact same_int z⟩))
theorem made_desk {H : Hp} {C x dx : Addr} {Q : VK} {E : XK} (nx : H x = none) (nd : H dx = none) (ne : dx ≠ x) (hC : PySem.W.nsIn K mainGlobals "LockTable" = some (some (.ref C)))
    (q : ∀ (H' : Hp) (F : Addr → Prop), Same H H' → LkAt K H' x [] F 0 → (∀ b, F b → H b = none) → Q .non H') : sp_LockTable___init__ K [.ref x] (upd (upd H dx (.own x)) x (.ins C dx [])) Q E := by
  have sx : ∀ b o, H b = some o → (upd (upd H dx (.own x)) x (.ins C dx [])) b = some o := fun b o hb => by
    rw [upd_ne (ne_of_none hb nx), upd_ne (ne_of_none hb nd)]
    exact hb
  have fr : ∀ b, (upd (upd H dx (.own x)) x (.ins C dx [])) b = none → H b = none := fun b hb => by
    cases e : H b with
    | none => rfl
    | some o => rw [sx b o e] at hb; cases hb
  refine ⟨x, C, dx, rfl, hC, upd_same, fun H' m p b nm np mp e1 e2 e3 => q H' _ (fun c o hc => b c o (ne_of_none hc nx) (sx c o hc)) (made_locks (H := H) hC e1 e2 e3) fun c f => ?_⟩
  rcases f with rfl | rfl | f | f
  · exact fr _ nm
  · exact fr _ np
  · exact nomatch f
  · exact nomatch f
theorem kys_of {H : Hp} : ∀ {zs : List V}, (∀ v ∈ zs, ∃ k, KyT H v k) → ∃ ks, All2 (KyT H) zs ks
  | [], _ => ⟨[], .nil⟩
  | v :: r, h => by
    obtain ⟨k, hk⟩ := h v List.mem_cons_self
    obtain ⟨ks, hks⟩ := kys_of fun u hu => h u (List.mem_cons_of_mem _ hu)
    exact ⟨k :: ks, .cons hk hks⟩
theorem perm_ints {ys : List V} {zs : List Int} (h : ys.Perm (zs.map V.int)) : ∃ ws : List Int, ys = ws.map V.int ∧ ws.length = zs.length := by
  have : ∀ ys : List V, (∀ y ∈ ys, ∃ z, y = V.int z) → ∃ ws : List Int, ys = ws.map V.int := by
    intro ys
    induction ys with
    | nil => intro _; exact ⟨[], rfl⟩
    | cons y r ih =>
      intro h
      obtain ⟨z, rfl⟩ := h y List.mem_cons_self
      obtain ⟨ws, rfl⟩ := ih fun y hy => h y (List.mem_cons_of_mem _ hy)
      exact ⟨z :: ws, rfl⟩
  obtain ⟨ws, rfl⟩ := this ys fun y hy => by
    obtain ⟨z, _, rfl⟩ := List.mem_map.mp (h.mem_iff.mp hy)
    exact ⟨z, rfl⟩
  have := h.length_eq
  rw [List.length_map, List.length_map] at this
  exact ⟨ws, rfl, this⟩
theorem LkAt.more {H : Hp} {a : Addr} {L : List Lck} {F : Addr → Prop} {n m : Nat} (h : LkAt K H a L F n) (l : n ≤ m) : LkAt K H a L F m := by
  obtain ⟨m0, p, M, P, g, ok, e, l1, l2⟩ := h
  exact ⟨m0, p, M, P, g, ok, e, Nat.le_trans l1 l, Nat.le_trans l2 l⟩
theorem free_none {L : List Lck} {q : Plc} {w : Int} (h : q ∉ heldW L w) : freeL L q w = L := by
  unfold freeL
  refine List.filter_eq_self.mpr fun l hl => ?_
  by_cases c : l.1 = q ∧ l.2.1 = w
  · exact absurd (mem_held.mpr ⟨l.2.2, by rw [← c.1, ← c.2]; exact hl⟩) h
  · rw [← Bool.decide_and, decide_eq_false c]
    rfl
theorem both_len {α : Type} (p : α → Bool) : ∀ L : List α, (L.filter p).length + (L.filter fun x => !p x).length = L.length
  | [] => rfl
  | l :: r => by
    have ih := both_len p r
    by_cases c : p l = true
    · rw [List.filter_cons_of_pos c, List.filter_cons_of_neg (by rw [c]; decide), List.length_cons, List.length_cons]
      omega
    · rw [List.filter_cons_of_neg c, List.filter_cons_of_pos (by rw [Bool.eq_false_iff.mpr c]; rfl), List.length_cons, List.length_cons]
      omega
theorem free_count {L : List Lck} {w : Int} {ks : List Plc} : (L.length : Int) - (freeAllL L w ks).length = (((heldW L w).filter fun q => !decide (q ∈ ks)).length : Int) := by
  have e : (heldW L w).filter (fun q => !decide (q ∈ ks)) = (L.filter fun l => !(!decide (l.2.1 = w) || decide (l.1 ∈ ks))).map (·.1) := by
    unfold heldW
    rw [List.filter_map, List.filter_filter]
    congr 1
    refine List.filter_congr fun l _ => ?_
    show ((!decide (l.1 ∈ ks)) && decide (l.2.1 = w)) = !(!decide (l.2.1 = w) || decide (l.1 ∈ ks))
    cases decide (l.1 ∈ ks) <;> cases decide (l.2.1 = w) <;> rfl
  rw [e, List.length_map]
  have := both_len (fun l : Lck => !decide (l.2.1 = w) || decide (l.1 ∈ ks)) L
  unfold freeAllL
  omega
/-! ### values -/
def sp__law_values (K : PySem.W.Frag) : Sp := fun vs H Q _ => ∃ (st scr : Addr), vs = [.ref st] ∧ DrAt H st scr ∧
  ∀ (H' : Hp) (p : Addr) (ns : List Int), Bt st H H' → DrAt H' st scr → H p = none → H' p = some (.lst (ns.map V.int)) → ns.length = 4 → ns.Nodup → Q (.ref p) H'
theorem len__law_values {vs : List V} {H : Hp} {Q : VK} {E : XK} (h : sp__law_values K vs H Q E) : vs.length = 1 := by
  obtain ⟨_, _, rfl, _⟩ := h
  rfl
theorem ok__law_values {f : Addr} {fd : FuncData} {f__law_constant : Addr} {fd__law_constant : FuncData} {f__law_draw : Addr} {fd__law_draw : FuncData} (F : Fun K "_law_values" "_law_values" s__law_values f fd) (T : Gs K mg a_LockTable) (c__law_constant : Cal P w K mg base CX0 3 "_law_constant" f__law_constant fd__law_constant ["_law_state_here"] (sp__law_constant K)) (c__law_draw : Cal P w K mg base CX0 1 "_law_draw" f__law_draw fd__law_draw ["_law_state_here", "_law_many"] (sp__law_draw K)) : FnOk P w K mg base CX0 4 f fd ["_law_state_here"] (sp__law_values K) := by
  refine F.ok sc__law_values (fun vs H Q E h => len__law_values h) (fun cdv A outer s H vs Q E hr h => ?_)
  obtain ⟨st, scr, rfl, hd, q⟩ := h
  refine ⟨_, (pss_cons (ps_set (i := 1) sc__law_values.nd rfl (.inl rfl) (pe_call c__law_constant.G (hr.mono (by first | decide | omega)) rfl c__law_constant.m c__law_constant.kp c__law_constant.b .nil pass0 (pa_cons (v_ 0) pa_nil))) (pss_cons (ps_set (i := 2) sc__law_values.nd rfl (.inl rfl) (pe_op (addK K) pe_int (pe_call c__law_draw.G (hr.mono (by first | decide | omega)) rfl c__law_draw.m c__law_draw.kp c__law_draw.b .nil pass0 (pa_cons (v_ 0) (pa_cons pe_int pa_nil))))) (pss_one (ps_ret (pe_lst (pa_cons (v_ 1) (pa_cons (pe_op (addK K) (v_ 1) (v_ 2)) (pa_cons (pe_op (addK K) (v_ 1) (pe_op op_mulSM pe_int (v_ 2))) (pa_cons (pe_op (addK K) (v_ 1) (pe_op op_mulSM pe_int (v_ 2))) pa_nil))))))))), ?_⟩
  refine ⟨st, scr, rfl, hd, fun l i bd hd1 => ?_⟩
  have b1 : Bt st H (upd H st (.lst l)) := Bt.st
  generalize upd H st (.lst l) = H1 at hd1 b1 ⊢
  refine ⟨st, scr, 5, rfl, hd1, by decide, many_small (by decide) (by decide), fun r l r0 r1 hd2 => ?_⟩
  have b2 : Bt st H (upd H1 st (.lst l)) := b1.trans Bt.st
  generalize upd H1 st (.lst l) = H2 at hd2 b2 ⊢
  refine ⟨.inl (.inl ⟨by decide, by decide⟩), .inl (.inl ⟨by decide, by decide⟩), (by show 4 ≤ sizeLine; decide), fun p np => ?_⟩
  have sp := same_new (o := .lst ([i, i + (1 + r), i + 2 * (1 + r), i + 3 * (1 + r)].map V.int)) np
  refine q _ p [i, i + (1 + r), i + 2 * (1 + r), i + 3 * (1 + r)] (b2.trans (Bt.same sp)) (hd2.new sp) (b2.free (hd2.ne_new np) np) upd_same rfl ?_
  simp only [List.nodup_cons, List.mem_cons, List.not_mem_nil, or_false, not_or, List.nodup_nil, not_false_eq_true, and_true]
  refine ⟨⟨?_, ?_, ?_⟩, ⟨?_, ?_⟩, ?_⟩ <;> omega
end
section
variable {P : Program} {w : World} {K : PySem.W.Frag} {mg : Str → Option Value} {base : Heap}
variable {a_LockTable : Addr}
/-! ### what excludes -/
def MdOk (L : List Lck) : Prop := ∀ l ∈ L, l.2.2 = ("share" : Str) ∨ l.2.2 = ("hold" : Str)
/-- who holds a place alone has it alone -/
def LEx (L : List Lck) : Prop := ∀ q x, x ∈ atP L q → x.2 = ("hold" : Str) → (atP L q).length ≤ 1
theorem at_held {L : List Lck} {q : Plc} {w : Int} : q ∈ heldW L w ↔ w ∈ (atP L q).map (·.1) := by
  rw [mem_held, List.mem_map]
  constructor
  · rintro ⟨m, h⟩
    exact ⟨(w, m), mem_at.mpr h, rfl⟩
  · rintro ⟨⟨x, m⟩, h, rfl⟩
    exact ⟨m, mem_at.mp h⟩
theorem mem_holders {L : List Lck} {q : Plc} {p : Int × Str} : p ∈ holdersOf L q ↔ p ∈ atP L q := holders_perm.mem_iff
theorem no_blockers {L : List Lck} {q : Plc} {w : Int} {m : Str} (h : blockersOf L q w m = []) {p : Int × Str} (hp : p ∈ atP L q) (n : p.1 ≠ w) : m ≠ ("hold" : Str) ∧ p.2 ≠ ("hold" : Str) := by
  unfold blockersOf at h
  rw [List.map_eq_nil_iff, List.filter_eq_nil_iff] at h
  have := h p (mem_holders.mpr hp)
  unfold blocks at this
  rw [decide_eq_false n] at this
  exact ⟨fun e => this (by rw [decide_eq_true e]; rfl), fun e => this (by rw [decide_eq_true e, Bool.or_true]; rfl)⟩
theorem LEx.sub {L : List Lck} (h : LEx L) {f : Lck → Bool} : LEx (L.filter f) := by
  intro q x hx e
  have s : (atP (L.filter f) q).Sublist (atP L q) := by
    unfold atP
    exact (List.filter_sublist.filter _).map _
  exact Nat.le_trans s.length_le (h q x (s.subset hx) e)
theorem one_writer {L : List Lck} (ok : LOk L) {q : Plc} {w : Int} (h : ∀ p ∈ atP L q, p.1 = w) : (atP L q).length ≤ 1 := by
  have nd := ok.at q
  cases e : atP L q with
  | nil => exact Nat.zero_le _
  | cons a r =>
    cases r with
    | nil => exact Nat.le_refl _
    | cons b r =>
      rw [e] at nd h
      have h1 := h a List.mem_cons_self
      have h2 := h b (List.mem_cons_of_mem _ List.mem_cons_self)
      rw [List.map_cons, List.map_cons, List.nodup_cons] at nd
      exact absurd (List.mem_cons.mpr (.inl (h1.trans h2.symm))) nd.1
theorem LEx.take {L : List Lck} (h : LEx L) (ok : LOk L) {q : Plc} {w : Int} {m : Str} (nb : blockersOf L q w m = []) : LEx (takeL L q w m) := by
  intro r x hx e
  rw [at_take] at hx ⊢
  by_cases c : r = q
  · subst c
    rw [if_pos rfl] at hx ⊢
    by_cases d : r ∈ heldW L w
    · rw [if_pos d] at hx ⊢
      rw [List.length_map]
      obtain ⟨p, hp, rfl⟩ := List.mem_map.mp hx
      by_cases f : p.1 = w
      · rw [if_pos f] at e
        have e : modeUp p.2 m = ("hold" : Str) := e
        unfold modeUp at e
        by_cases g : p.2 = ("hold" : Str)
        · exact h r p hp g
        · rw [if_neg g] at e
          exact one_writer ok (w := w) fun p hp => Classical.byContradiction fun n => (no_blockers nb hp n).1 e
      · rw [if_neg f] at e
        exact h r p hp e
    · rw [if_neg d] at hx ⊢
      have nw : ∀ p ∈ atP L r, p.1 ≠ w := fun p hp e => d (at_held.mpr (List.mem_map.mpr ⟨p, hp, e⟩))
      rcases List.mem_append.mp hx with hx | hx
      · exact absurd e (no_blockers nb hx (nw x hx)).2
      · rw [List.mem_singleton] at hx
        subst hx
        have : atP L r = [] := List.eq_nil_iff_forall_not_mem.mpr fun p hp => (no_blockers nb hp (nw p hp)).1 e
        rw [this]
        exact Nat.le_refl _
  · rw [if_neg c] at hx ⊢
    exact h r x hx e
theorem take_md {L : List Lck} {q : Plc} {w : Int} {md : Str} (ok : MdOk L) (hm : md = ("share" : Str) ∨ md = ("hold" : Str)) : MdOk (takeL L q w md) := by
  unfold takeL
  by_cases h : q ∈ heldW L w
  · rw [if_pos h]
    intro l hl
    obtain ⟨x, hx, rfl⟩ := List.mem_map.mp hl
    by_cases c : x.1 = q ∧ x.2.1 = w
    · rw [if_pos c]
      show modeUp x.2.2 md = _ ∨ modeUp x.2.2 md = _
      unfold modeUp
      by_cases d : x.2.2 = ("hold" : Str)
      · rw [if_pos d]
        exact .inr d
      · rw [if_neg d]
        exact hm
    · rw [if_neg c]
      exact ok x hx
  · rw [if_neg h]
    intro l hl
    rcases List.mem_append.mp hl with h | h
    · exact ok l h
    · rw [List.mem_singleton.mp h]
      exact hm
/-- places and writers are of the rows -/
def LIn (L : List Lck) (ks : List Plc) (ws : List Int) : Prop := ∀ l ∈ L, l.1 ∈ ks ∧ l.2.1 ∈ ws
theorem take_in {L : List Lck} {ks : List Plc} {ws : List Int} {q : Plc} {w : Int} {md : Str} (h : LIn L ks ws) (hq : q ∈ ks) (hw : w ∈ ws) : LIn (takeL L q w md) ks ws := by
  unfold takeL
  by_cases c : q ∈ heldW L w
  · rw [if_pos c]
    intro l hl
    obtain ⟨x, hx, rfl⟩ := List.mem_map.mp hl
    by_cases c : x.1 = q ∧ x.2.1 = w
    · rw [if_pos c]
      exact h x hx
    · rw [if_neg c]
      exact h x hx
  · rw [if_neg c]
    intro l hl
    rcases List.mem_append.mp hl with g | g
    · exact h l g
    · rw [List.mem_singleton.mp g]
      exact ⟨hq, hw⟩
theorem take_len {L : List Lck} {q : Plc} {w : Int} {md : Str} : (takeL L q w md).length ≤ L.length + 1 := by
  unfold takeL
  by_cases c4 : q ∈ heldW L w
  · rw [if_pos c4, List.length_map]
    omega
  · rw [if_neg c4, List.length_append]
    exact Nat.le_refl _
/-! ### the holders of a place after a deed -/
def takenP (ps : List (Int × Str)) (w : Int) (m : Str) : List (Int × Str) := (ps.filter fun p => decide (p.1 < w)) ++ [(w, if (w, ("hold" : Str)) ∈ ps then ("hold" : Str) else m)] ++ ps.filter fun p => decide (w < p.1)
theorem taken_lt {ps : List (Int × Str)} {w : Int} {m : Str} (h : ps.Pairwise fun a b => a.1 < b.1) : (takenP ps w m).Pairwise fun a b => a.1 < b.1 := by
  unfold takenP
  rw [List.append_assoc]
  have lo : ∀ p ∈ ps.filter fun p => decide (p.1 < w), p.1 < w := fun p hp => of_decide_eq_true (List.mem_filter.mp hp).2
  have hi : ∀ p ∈ ps.filter fun p => decide (w < p.1), w < p.1 := fun p hp => of_decide_eq_true (List.mem_filter.mp hp).2
  refine List.pairwise_append.mpr ⟨h.sublist List.filter_sublist, List.pairwise_cons.mpr ⟨fun p hp => hi p hp, h.sublist List.filter_sublist⟩, fun a ha b hb => ?_⟩
  have hb : b ∈ (w, if (w, ("hold" : Str)) ∈ ps then ("hold" : Str) else m) :: ps.filter fun p => decide (w < p.1) := hb
  have := lo a ha
  rcases List.mem_cons.mp hb with rfl | hb
  · exact this
  · have := hi b hb
    omega
theorem mem_taken {ps : List (Int × Str)} {w : Int} {m : Str} {x : Int × Str} : x ∈ takenP ps w m ↔ (x ∈ ps ∧ x.1 ≠ w) ∨ x = (w, if (w, ("hold" : Str)) ∈ ps then ("hold" : Str) else m) := by
  unfold takenP
  rw [List.mem_append, List.mem_append, List.mem_filter, List.mem_filter, List.mem_singleton]
  constructor
  · rintro ((⟨h, e⟩ | h) | ⟨h, e⟩)
    · have := of_decide_eq_true e
      exact .inl ⟨h, by omega⟩
    · exact .inr h
    · have := of_decide_eq_true e
      exact .inl ⟨h, by omega⟩
  · rintro (⟨h, e⟩ | h)
    · rcases Int.lt_or_gt_of_ne e with c | c
      · exact .inl (.inl ⟨h, decide_eq_true c⟩)
      · exact .inr ⟨h, decide_eq_true c⟩
    · exact .inl (.inr h)
theorem nodup_lt {ps : List (Int × Str)} (h : ps.Pairwise fun a b => a.1 < b.1) : ps.Nodup := h.imp fun {a b} c e => by rw [e] at c; omega
theorem same_writer {L : List Lck} (ok : LOk L) {q : Plc} {w : Int} {m n : Str} (h1 : (w, m) ∈ atP L q) (h2 : (w, n) ∈ atP L q) : m = n := by
  have nd := ok.at q
  obtain ⟨i, hi, ei⟩ := List.getElem_of_mem h1
  obtain ⟨j, hj, ej⟩ := List.getElem_of_mem h2
  have : i = j := (List.getElem?_inj (by rw [List.length_map]; exact hi) nd).mp (by rw [List.getElem?_map, List.getElem?_map, List.getElem?_eq_getElem hi, List.getElem?_eq_getElem hj, ei, ej]; rfl)
  subst this
  rw [ei] at ej
  exact congrArg Prod.snd ej
theorem holders_take {L : List Lck} (ok : LOk L) {q : Plc} {w : Int} {m : Str} : holdersOf (takeL L q w m) q = takenP (holdersOf L q) w m := by
  have s1 := holders_lt (take_ok ok q w m) q
  have s2 := taken_lt (w := w) (m := m) (holders_lt ok q)
  refine sorted_eq ((List.perm_ext_iff_of_nodup (nodup_lt s1) (nodup_lt s2)).mpr fun x => ?_) s1 s2
  have hh : (if (w, ("hold" : Str)) ∈ holdersOf L q then ("hold" : Str) else m) = if (w, ("hold" : Str)) ∈ atP L q then ("hold" : Str) else m := by
    by_cases c : (w, ("hold" : Str)) ∈ atP L q
    · rw [if_pos c, if_pos (mem_holders.mpr c)]
    · rw [if_neg c, if_neg fun h => c (mem_holders.mp h)]
  rw [mem_holders, mem_taken, mem_holders, hh, at_take, if_pos rfl]
  by_cases c : q ∈ heldW L w
  · rw [if_pos c, List.mem_map]
    obtain ⟨z, hz⟩ := mem_held.mp c
    have hz := mem_at.mpr hz
    constructor
    · rintro ⟨p, hp, rfl⟩
      by_cases d : p.1 = w
      · rw [if_pos d]
        refine .inr ?_
        obtain ⟨v, n⟩ := p
        have d : v = w := d
        subst d
        show (v, modeUp n m) = _
        unfold modeUp
        by_cases g : n = ("hold" : Str)
        · subst g
          rw [if_pos rfl, if_pos hp]
        · rw [if_neg g, if_neg fun h => g (same_writer ok hp h)]
      · rw [if_neg d]
        exact .inl ⟨hp, d⟩
    · rintro (⟨h, e⟩ | rfl)
      · exact ⟨x, h, if_neg e⟩
      · refine ⟨_, hz, ?_⟩
        rw [if_pos rfl]
        show (w, modeUp z m) = _
        unfold modeUp
        by_cases g : z = ("hold" : Str)
        · subst g
          rw [if_pos rfl, if_pos hz]
        · rw [if_neg g, if_neg fun h => g (same_writer ok hz h)]
  · rw [if_neg c, List.mem_append, List.mem_singleton]
    have nw : ∀ p ∈ atP L q, p.1 ≠ w := fun p hp e => c (at_held.mpr (List.mem_map.mpr ⟨p, hp, e⟩))
    rw [if_neg fun h => nw _ h rfl]
    constructor
    · rintro (h | h)
      · exact .inl ⟨h, nw _ h⟩
      · exact .inr h
    · rintro (h | h)
      · exact .inl h.1
      · exact .inr h
theorem holders_take_ne {L : List Lck} {q r : Plc} {w : Int} {m : Str} (h : r ≠ q) : holdersOf (takeL L q w m) r = holdersOf L r := by
  unfold holdersOf
  rw [at_take, if_neg h]
theorem holders_filter {L L' : List Lck} (ok : LOk L) (ok' : LOk L') {q : Plc} {f : Int × Str → Bool} (h : atP L' q = (atP L q).filter f) : holdersOf L' q = (holdersOf L q).filter f := by
  refine sorted_eq ?_ (holders_lt ok' q) ((holders_lt ok q).sublist List.filter_sublist)
  refine holders_perm.trans ?_
  rw [h]
  exact (holders_perm.filter f).symm
theorem holders_free {L : List Lck} (ok : LOk L) {q : Plc} {w : Int} : holdersOf (freeL L q w) q = (holdersOf L q).filter fun p => !decide (p.1 = w) :=
  holders_filter ok (free_ok ok q w) (by rw [at_free, if_pos rfl])
theorem holders_free_ne {L : List Lck} {q r : Plc} {w : Int} (h : r ≠ q) : holdersOf (freeL L q w) r = holdersOf L r := by
  unfold holdersOf
  rw [at_free, if_neg h]
theorem free_all_ok {L : List Lck} (h : LOk L) (w : Int) (ks : List Plc) : LOk (freeAllL L w ks) := h.sublist (List.filter_sublist.map _)
theorem at_free_all {L : List Lck} {w : Int} {ks : List Plc} {q : Plc} : atP (freeAllL L w ks) q = if q ∈ ks then atP L q else (atP L q).filter fun p => !decide (p.1 = w) := by
  unfold atP freeAllL
  rw [List.filter_filter]
  by_cases c : q ∈ ks
  · rw [if_pos c]
    congr 1
    refine List.filter_congr fun l _ => ?_
    by_cases d : l.1 = q
    · rw [d, decide_eq_true c, Bool.or_true, Bool.and_true]
    · rw [decide_eq_false d, Bool.false_and]
  · rw [if_neg c, List.filter_map, List.filter_filter]
    congr 1
    refine List.filter_congr fun l _ => ?_
    show (decide (l.1 = q) && (!decide (l.2.1 = w) || decide (l.1 ∈ ks))) = (!decide (l.2.1 = w) && decide (l.1 = q))
    by_cases d : l.1 = q
    · rw [d, decide_eq_false c, Bool.or_false, Bool.and_comm]
    · rw [decide_eq_false d, Bool.false_and, Bool.and_false]
theorem held_free_all {L : List Lck} {w : Int} {ks : List Plc} (v : Int) : heldW (freeAllL L w ks) v = if v = w then (heldW L w).filter (fun q => decide (q ∈ ks)) else heldW L v := by
  unfold heldW freeAllL
  rw [List.filter_filter]
  by_cases ev : v = w
  · subst ev
    rw [if_pos rfl, List.filter_map, List.filter_filter]
    congr 1
    refine List.filter_congr fun l _ => ?_
    show (decide (l.2.1 = v) && (!decide (l.2.1 = v) || decide (l.1 ∈ ks))) = (decide (l.1 ∈ ks) && decide (l.2.1 = v))
    cases decide (l.2.1 = v) <;> cases decide (l.1 ∈ ks) <;> rfl
  · rw [if_neg ev]
    congr 1
    refine List.filter_congr fun l _ => ?_
    by_cases c : l.2.1 = v
    · rw [c, decide_eq_true rfl, decide_eq_false ev]
      rfl
    · rw [decide_eq_false c]
      rfl
theorem holders_free_all {L : List Lck} (ok : LOk L) {w : Int} {ks : List Plc} {q : Plc} : holdersOf (freeAllL L w ks) q = if q ∈ ks then holdersOf L q else (holdersOf L q).filter fun p => !decide (p.1 = w) := by
  by_cases c : q ∈ ks
  · rw [if_pos c]
    unfold holdersOf
    rw [at_free_all, if_pos c]
  · rw [if_neg c]
    exact holders_filter ok (free_all_ok ok w ks) (by rw [at_free_all, if_neg c])
end
section
variable {P : Program} {w : World} {K : PySem.W.Frag} {mg : Str → Option Value} {base : Heap}
variable {a_LockTable : Addr}
/-! ### one place as the law looks at it -/
def OneP (ps : List (Int × Str)) (ws : List Int) : Prop := ps.Pairwise (fun a b => a.1 < b.1) ∧ ∀ p ∈ ps, p.1 ∈ ws ∧ (p.2 = ("share" : Str) ∨ p.2 = ("hold" : Str)) ∧ (p.2 = ("hold" : Str) → ps.length ≤ 1)
theorem flat_ints {ws : List Int} : (ws.map V.int).all flatV = true := List.all_eq_true.mpr fun v hv => by
  obtain ⟨_, _, rfl⟩ := List.mem_map.mp hv
  rfl
theorem inV_int {i : Int} {ws : List Int} : inV (.int i) (ws.map V.int) = decide (i ∈ ws) := by
  unfold inV
  rw [List.any_map]
  by_cases c : i ∈ ws
  · rw [decide_eq_true c]
    exact List.any_eq_true.mpr ⟨i, c, by show (i == i) = true; exact beq_self_eq_true i⟩
  · rw [decide_eq_false c]
    refine List.any_eq_false.mpr fun j hj e => c ?_
    have e : (j == i) = true := e
    rw [← eq_of_beq e]
    exact hj
def sp__law_one_place (K : PySem.W.Frag) : Sp := fun vs H Q _ => ∃ (r wl : Addr) (xs : List V) (ps : List (Int × Str)) (ws : List Int), vs = [.ref r, .ref wl] ∧ H r = some (.lst xs) ∧ PrAs H xs ps ∧ H wl = some (.lst (ws.map V.int)) ∧ OneP ps ws ∧ ps.length ≤ 1000 ∧ ws.length ≤ 100 ∧
  ∀ H' : Hp, Same H H' → Q (.bl true) H'
theorem len__law_one_place {vs : List V} {H : Hp} {Q : VK} {E : XK} (h : sp__law_one_place K vs H Q E) : vs.length = 2 := by
  obtain ⟨_, _, _, _, _, rfl, _⟩ := h
  rfl
theorem ok__law_one_place {f : Addr} {fd : FuncData} {f__law_is_int : Addr} {fd__law_is_int : FuncData} (F : Fun K "_law_one_place" "_law_one_place" s__law_one_place f fd) (T : Gs K mg a_LockTable) (c__law_is_int : Cal P w K mg base CX0 1 "_law_is_int" f__law_is_int fd__law_is_int ["_law_thing"] (sp__law_is_int K)) : FnOk P w K mg base CX0 2 f fd ["_law_row", "_law_writers"] (sp__law_one_place K) := by
  refine F.ok sc__law_one_place (fun vs H Q E h => len__law_one_place h) (fun cdv A outer s H vs Q E hr h => ?_)
  obtain ⟨r, wl, xs, ps, ws, rfl, hr0, hxs, hwl, ⟨o1, o2⟩, few, w1, qq⟩ := h
  refine ⟨_, (pss_cons (ps_if (pt_not (pt_t K (pe_callB (isiK K) (by rfl) T.z_isinstance (by decide +kernel) (pa_cons (v_ 0) (pa_cons (pe_bltn (v := .ty "list") (u := .type "list") (by rfl) T.z_list (by decide +kernel) rfl) pa_nil))))) (pss_one (ps_ret pe_bl)) pss_nil) (pss_cons (ps_for PassesOwn.never rfl (pi_range1 rfl T.z_range (pa_cons (pe_callB (lenK K) (by rfl) T.z_len PySem.boot_len (pa_cons (v_ 0) pa_nil)) pa_nil)) (pg_name (i := 2) sc__law_one_place.nd rfl (.inl rfl)) (pss_cons (ps_if (PW.pt (pw_or (pt_not (pt_t K (pe_callB (isiK K) (by rfl) T.z_isinstance (by decide +kernel) (pa_cons (e_x K (v_ 0) (v_ 2)) (pa_cons (pe_bltn (v := .ty "tuple") (u := .type "tuple") (by rfl) T.z_tuple (by decide +kernel) rfl) pa_nil))))) (pw_or (pt_c (neK K hr.units) (pe_callB (lenK K) (by rfl) T.z_len PySem.boot_len (pa_cons (e_x K (v_ 0) (v_ 2)) pa_nil)) pe_int) (pw_or1 (pt_not (pt_t K (pe_call c__law_is_int.G (hr.mono (by first | decide | omega)) rfl c__law_is_int.m c__law_is_int.kp c__law_is_int.b .nil pass0 (pa_cons (e_x K (e_x K (v_ 0) (v_ 2)) pe_int) pa_nil)))))))) (pss_one (ps_ret pe_bl)) pss_nil) (pss_cons (ps_if (PW.pt (pw_or (pt_c (notInK K) (e_x K (e_x K (v_ 0) (v_ 2)) pe_int) (v_ 1)) (pw_or1 (pt_c (notInK K) (e_x K (e_x K (v_ 0) (v_ 2)) pe_int) (pe_lst (pa_cons pe_str (pa_cons pe_str pa_nil))))))) (pss_one (ps_ret pe_bl)) pss_nil) (pss_cons (ps_if (PW.pt (pw_and (pt_c op_gtM (v_ 2) pe_int) (pw_and1 (pt_c op_geM (e_x K (e_x K (v_ 0) (pe_op op_subM (v_ 2) pe_int)) pe_int) (e_x K (e_x K (v_ 0) (v_ 2)) pe_int))))) (pss_one (ps_ret pe_bl)) pss_nil) (pss_one (ps_if (PW.pt (pw_and (pt_c (eqK K hr.units) (e_x K (e_x K (v_ 0) (v_ 2)) pe_int) pe_str) (pw_and1 (pt_c op_gtM (pe_callB (lenK K) (by rfl) T.z_len PySem.boot_len (pa_cons (v_ 0) pa_nil)) pe_int)))) (pss_one (ps_ret pe_bl)) pss_nil)))))) (pss_one (ps_ret pe_bl)))), ?_⟩
  have xl := hxs.len
  refine ⟨_, _, _, _, true, rfl, .ty _, .base (.lst hr0), kit_ty (by decide +kernel), ?_⟩
  refine .inl ⟨_, .inl (SqL.of hr0), _, rfl, by omega, by omega, ?_⟩
  refine for_range (lo := 0) (n := xs.length) (fun i σ' H' => (∃ y, σ' = [some (.ref r), some (.ref wl), y]) ∧ Same H H') ⟨⟨_, rfl⟩, Same.refl _⟩ ?_ ?_
  · rintro i σ' H2 hi ⟨⟨y, rfl⟩, s2⟩
    obtain ⟨⟨x, z⟩, e, t, ev, ht0⟩ := hxs.at (List.getElem?_eq_getElem hi)
    have ax : atI xs (0 + (i : Int)) = some (.ref t) := by
      rw [Int.zero_add, ← ev]
      exact atI_nat (List.getElem?_eq_getElem hi)
    have ht := s2 _ _ ht0
    have hr2 := s2 _ _ hr0
    have i0 : atI [V.int x, .str z] (0 : Int) = some (.int x) := rfl
    have i1 : atI [V.int x, .str z] (1 : Int) = some (.str z) := rfl
    obtain ⟨m1, m2, m3⟩ := o2 _ (List.mem_of_getElem? e)
    refine ⟨_, .inl (SqL.of hr2), _, ax, ?_⟩
    refine ⟨_, _, _, _, true, rfl, .ty _, ty_tup (SqT.of ht), kit_ty (by decide +kernel), ?_⟩
    refine ⟨_, .inl (SqL.of hr2), _, ax, .inl ⟨_, .inr (SqT.of ht), ?_⟩⟩
    refine ⟨_, .inl (SqL.of hr2), _, ax, _, .inr (SqT.of ht), _, i0, x, rfl, ?_⟩
    refine ⟨_, .inl (SqL.of hr2), _, ax, _, .inr (SqT.of ht), _, i0, _, .inl (SqL.of (s2 _ _ hwl)), rfl, flat_ints, ?_⟩
    refine ite2 (fun c => ?_) (fun _ => ?_)
    · have c : (!inV (.int x) (ws.map V.int)) = true := c
      rw [inV_int, decide_eq_true m1] at c
      exact absurd c (by decide)
    refine ⟨_, .inl (SqL.of hr2), _, ax, _, .inr (SqT.of ht), _, i1, (by show 2 ≤ sizeLine; decide), fun u nu => ?_⟩
    have su := same_new (o := .lst [.str "share", .str "hold"]) nu
    refine ⟨_, .inl (SqL.of upd_same), rfl, rfl, ?_⟩
    have s3 := s2.trans su
    have hr3 := su _ _ hr2
    have ht3 := su _ _ ht
    generalize upd H2 u (.lst [.str "share", .str "hold"]) = H3 at s3 hr3 ht3 ⊢
    refine ite2 (fun c => ?_) (fun _ => ?_)
    · have c : (!inV (.str z) [.str "share", .str "hold"]) = true := c
      rcases m2 with e | e
      · have e : z = "share" := e
        rw [e] at c
        exact absurd c (by decide)
      · have e : z = "hold" := e
        rw [e] at c
        exact absurd c (by decide)
    have last : ∀ j : Nat, (j : Int) = 0 + (i : Int) - 1 → 0 < (0 : Int) + i → ∃ q : Int × Str, ∃ u, atI xs (0 + (i : Int) - 1) = some (.ref u) ∧ H3 u = some (.tup [.int q.1, .str q.2]) ∧ q.1 < x := fun j ej i0 => by
      obtain ⟨q, eq, u, ev, hu⟩ := hxs.at (List.getElem?_eq_getElem (show j < xs.length by omega))
      refine ⟨q, u, ?_, s3 _ _ hu, ?_⟩
      · rw [← ej, ← ev]
        exact atI_nat (List.getElem?_eq_getElem (by omega))
      · obtain ⟨h1, e1⟩ := List.getElem?_eq_some_iff.mp eq
        obtain ⟨h2, e2⟩ := List.getElem?_eq_some_iff.mp e
        have := List.pairwise_iff_getElem.mp o1 j i h1 h2 (by omega)
        rw [e1, e2] at this
        exact this
    refine ite2 (fun c => ?a) (fun _ => ?b)
    case' a =>
      have c : (0 : Int) < 0 + i := of_decide_eq_true c
      obtain ⟨q, u, au, hu, lt⟩ := last (i - 1) (by omega) c
      refine ⟨_, .inl (SqL.of hr3), _, au, _, .inr (SqT.of hu), .int q.1, rfl, _, .inl (SqL.of hr3), _, ax, _, .inr (SqT.of ht3), _, i0, ?_⟩
      refine ite2 (fun c => absurd (of_decide_eq_true c) (by omega)) (fun _ => ?_)
    all_goals refine ⟨_, .inl (SqL.of hr3), _, ax, _, .inr (SqT.of ht3), _, i1, ?_⟩
    all_goals refine ite2 (fun c => ?_) (fun _ => ⟨⟨_, rfl⟩, s3⟩)
    all_goals refine .inl ⟨_, .inl (SqL.of hr3), ?_⟩
    all_goals refine ite2 (fun c2 => ?_) (fun _ => ⟨⟨_, rfl⟩, s3⟩)
    all_goals
      have := m3 (of_decide_eq_true c)
      have c2 : (1 : Int) < xs.length := of_decide_eq_true c2
      omega
  · rintro σ' H2 ⟨⟨y, rfl⟩, s2⟩
    exact qq H2 s2
end
section
variable {P : Program} {w : World} {K : PySem.W.Frag} {mg : Str → Option Value} {base : Heap}
variable {a_LockTable : Addr}
/-! ### all places and writers as the law looks at them -/
def RowAt (H : Hp) (v : V) (ps : List (Int × Str)) : Prop := ∃ r xs, v = .ref r ∧ H r = some (.lst xs) ∧ PrAs H xs ps
def HeldAt (H : Hp) (v : V) (qs : List Plc) : Prop := ∃ r xs, v = .ref r ∧ H r = some (.lst xs) ∧ All2 (KyT H) xs qs
theorem RowAt.same {H H' : Hp} {v : V} {ps : List (Int × Str)} (h : RowAt H v ps) (s : Same H H') : RowAt H' v ps := by
  obtain ⟨r, xs, e, h, k⟩ := h
  exact ⟨r, xs, e, s _ _ h, k.same s⟩
theorem HeldAt.same {H H' : Hp} {v : V} {qs : List Plc} (h : HeldAt H v qs) (s : Same H H') : HeldAt H' v qs := by
  obtain ⟨r, xs, e, h, k⟩ := h
  exact ⟨r, xs, e, s _ _ h, k.imp fun v k h => h.same s⟩
def RowsI (H : Hp) (rs : List V) (F : Nat → List (Int × Str)) : Prop := ∀ i v, rs[i]? = some v → RowAt H v (F i)
def HeldsI (H : Hp) (ss : List V) (G : Nat → List Plc) : Prop := ∀ i v, ss[i]? = some v → HeldAt H v (G i)
theorem RowsI.same {H H' : Hp} {rs : List V} {F : Nat → List (Int × Str)} (h : RowsI H rs F) (s : Same H H') : RowsI H' rs F := fun i v e => (h i v e).same s
theorem HeldsI.same {H H' : Hp} {ss : List V} {G : Nat → List Plc} (h : HeldsI H ss G) (s : Same H H') : HeldsI H' ss G := fun i v e => (h i v e).same s
theorem RowAt.put {H : Hp} {D : Addr} {us ys : List V} {v : V} {ps : List (Int × Str)} (h : RowAt H v ps) (hD : H D = some (.lst us)) (n : v ≠ .ref D) : RowAt (upd H D (.lst ys)) v ps := by
  obtain ⟨r, xs, rfl, h, k⟩ := h
  have tp : TupS H (upd H D (.lst ys)) := TupS.upd fun xs e => by rw [hD] at e; cases e
  exact ⟨r, xs, rfl, by rw [upd_ne fun e => n (congrArg _ e)]; exact h, k.imp fun v p z => z.tup tp⟩
theorem HeldAt.put {H : Hp} {D : Addr} {us ys : List V} {v : V} {qs : List Plc} (h : HeldAt H v qs) (hD : H D = some (.lst us)) (n : v ≠ .ref D) : HeldAt (upd H D (.lst ys)) v qs := by
  obtain ⟨r, xs, rfl, h, k⟩ := h
  have tp : TupS H (upd H D (.lst ys)) := TupS.upd fun xs e => by rw [hD] at e; cases e
  exact ⟨r, xs, rfl, by rw [upd_ne fun e => n (congrArg _ e)]; exact h, k.imp fun v p z => z.tup tp⟩
theorem snoc_at {α : Type} {xs : List α} {y v : α} {j : Nat} (e : (xs ++ [y])[j]? = some v) : (j < xs.length ∧ xs[j]? = some v) ∨ (j = xs.length ∧ v = y) := by
  by_cases c : j < xs.length
  · rw [List.getElem?_append_left c] at e
    exact .inl ⟨c, e⟩
  · rw [List.getElem?_append_right (by omega)] at e
    have := (List.getElem?_eq_some_iff.mp e).1
    rw [List.length_singleton] at this
    have : j = xs.length := by omega
    subst this
    rw [Nat.sub_self] at e
    exact .inr ⟨rfl, (Option.some.inj e).symm⟩
def hF (L : List Lck) (ks : List Plc) (i : Nat) : List (Int × Str) := holdersOf L (ks.getD i [])
def gF (L : List Lck) (ws : List Int) (j : Nat) : List Plc := heldW L (ws.getD j 0)
theorem hF_at {L : List Lck} {ks : List Plc} {i : Nat} {q : Plc} (e : ks[i]? = some q) : hF L ks i = holdersOf L q := by
  unfold hF
  rw [List.getD_eq_getElem?_getD, e]
  rfl
theorem gF_at {L : List Lck} {ws : List Int} {i : Nat} {w : Int} (e : ws[i]? = some w) : gF L ws i = heldW L w := by
  unfold gF
  rw [List.getD_eq_getElem?_getD, e]
  rfl
/-- the places of the rows where a writer is among the holders, in the rows' order -/
def dueP (L : List Lck) (ks : List Plc) (w : Int) : List Plc := ks.filter fun q => decide (w ∈ (holdersOf L q).map (·.1))
theorem mem_due {L : List Lck} {ks : List Plc} {w : Int} {q : Plc} : q ∈ dueP L ks w ↔ q ∈ ks ∧ q ∈ heldW L w := by
  unfold dueP
  rw [List.mem_filter, decide_eq_true_iff, at_held]
  refine and_congr_right fun _ => ?_
  rw [List.mem_map, List.mem_map]
  exact ⟨fun ⟨p, h, e⟩ => ⟨p, mem_holders.mp h, e⟩, fun ⟨p, h, e⟩ => ⟨p, mem_holders.mpr h, e⟩⟩
theorem due_perm {L : List Lck} {ks : List Plc} {ws : List Int} (ok : LOk L) (li : LIn L ks ws) (kn : ks.Nodup) (w : Int) : (dueP L ks w).Perm (heldW L w) := by
  refine (List.perm_ext_iff_of_nodup (kn.sublist List.filter_sublist) (ok.held w)).mpr fun q => ?_
  show q ∈ dueP L ks w ↔ _
  rw [mem_due]
  refine ⟨fun h => h.2, fun h => ⟨?_, h⟩⟩
  obtain ⟨m, hm⟩ := mem_held.mp h
  exact (li _ hm).1
theorem onep {L : List Lck} {ks : List Plc} {ws : List Int} (ok : LOk L) (ex : LEx L) (md : MdOk L) (li : LIn L ks ws) (q : Plc) : OneP (holdersOf L q) ws := by
  refine ⟨holders_lt ok q, fun p hp => ?_⟩
  have h := mem_holders.mp hp
  obtain ⟨w, m⟩ := p
  have h2 := mem_at.mp h
  refine ⟨(li _ h2).2, md _ h2, fun e => ?_⟩
  rw [holders_perm.length_eq]
  exact ex q _ h e
def sp__law_seen (K : PySem.W.Frag) : Sp := fun vs H Q _ => ∃ (a pl wl : Addr) (ps : List V) (ks : List Plc) (ws : List Int) (L : List Lck) (F : Addr → Prop) (n : Nat), vs = [.ref a, .ref pl, .ref wl] ∧ LkAt K H a L F n ∧ LEx L ∧ MdOk L ∧ LIn L ks ws ∧ L.length ≤ 64 ∧
  H pl = some (.lst ps) ∧ All2 (KyT H) ps ks ∧ H wl = some (.lst (ws.map V.int)) ∧ ws.length ≤ 100 ∧ ks.length ≤ 100 ∧ ks.Nodup ∧
  ∀ (H' : Hp) (t R S : Addr) (rs ss : List V), Same H H' → H' t = some (.tup [.ref R, .ref S]) → H' R = some (.lst rs) → H' S = some (.lst ss) → rs.length = ks.length → ss.length = ws.length → RowsI H' rs (hF L ks) → HeldsI H' ss (gF L ws) → Q (.ref t) H'
theorem len__law_seen {vs : List V} {H : Hp} {Q : VK} {E : XK} (h : sp__law_seen K vs H Q E) : vs.length = 3 := by
  obtain ⟨_, _, _, _, _, _, _, _, _, rfl, _⟩ := h
  rfl
theorem ok__law_seen {f : Addr} {fd : FuncData} {f__law_one_place : Addr} {fd__law_one_place : FuncData} {f_LockTable_holders : Addr} {fd_LockTable_holders : FuncData} {f_LockTable_held : Addr} {fd_LockTable_held : FuncData} (F : Fun K "_law_seen" "_law_seen" s__law_seen f fd) (T : Gs K mg a_LockTable) (c__law_one_place : Cal P w K mg base CX0 2 "_law_one_place" f__law_one_place fd__law_one_place ["_law_row", "_law_writers"] (sp__law_one_place K)) (c_LockTable_holders : CalM P w K mg base CX0 1 a_LockTable "holders" f_LockTable_holders fd_LockTable_holders ["self", "place"] (sp_LockTable_holders K)) (c_LockTable_held : CalM P w K mg base CX0 1 a_LockTable "held" f_LockTable_held fd_LockTable_held ["self", "writer"] (sp_LockTable_held K)) : FnOk P w K mg base CX0 3 f fd ["_law_desk", "_law_places", "_law_writers"] (sp__law_seen K) := by
  refine F.ok sc__law_seen (fun vs H Q E h => len__law_seen h) (fun cdv A outer s H vs Q E hr h => ?_)
  obtain ⟨a, pl, wl, ps, ks, ws, L, F, n, rfl, hL, ex, md, li, few, hpl, hps, hwl, w1, k1, kn, qq⟩ := h
  refine ⟨_, (pss_cons (ps_set (i := 3) sc__law_seen.nd rfl (.inr rfl) (pe_lc (own := [("_law_place", 8)]) (g := gName 8) (by rfl) sc__law_seen.nd (pi_list (v_ 1)) (blkOk_by (N := ["_law_desk", "_law_places", "_law_writers", "_law_rows", "_law_helds", "_law_writer", "_law_held", "_law_due", "_law_place", "_law_k", "_law_row", "_law_pair"]) (sc := defScope s__law_seen) (by decide +kernel)) (fun _ _ _ _ _ => pg_name (i := 8) sc__law_seen.nd rfl (Or.inl rfl)) (fun _ _ _ _ _ => pts_nil) (fun _ _ _ _ _ => (pe_meth (v_ 0) c_LockTable_holders.cl c_LockTable_holders.me c_LockTable_holders.G (hr.mono (by first | decide | omega)) c_LockTable_holders.b .nil pass0 (pa_cons (v_ 8) pa_nil))))) (pss_cons (ps_if (pt_c op_gtM (pe_callB (lenK K) (by rfl) T.z_len PySem.boot_len (pa_cons (pe_lc (own := [("_law_row", 10)]) (g := gName 10) (by rfl) sc__law_seen.nd (pi_list (v_ 3)) (blkOk_by (N := ["_law_desk", "_law_places", "_law_writers", "_law_rows", "_law_helds", "_law_writer", "_law_held", "_law_due", "_law_place", "_law_k", "_law_row", "_law_pair"]) (sc := defScope s__law_seen) (by decide +kernel)) (fun _ _ _ _ _ => pg_name (i := 10) sc__law_seen.nd rfl (Or.inl rfl)) (fun _ _ _ _ _ => pts_one (pt_not (pt_t K (pe_call c__law_one_place.G (hr.mono (by first | decide | omega)) rfl c__law_one_place.m c__law_one_place.kp c__law_one_place.b .nil pass0 (pa_cons (v_ 10) (pa_cons (v_ 2) pa_nil)))))) (fun _ _ _ _ _ => (v_ 10))) pa_nil)) pe_int) (pss_one (ps_ret pe_non)) pss_nil) (pss_cons (ps_set (i := 4) sc__law_seen.nd rfl (.inl rfl) (pe_lst pa_nil)) (pss_cons (ps_for PassesOwn.never rfl (pi_list (v_ 2)) (pg_name (i := 5) sc__law_seen.nd rfl (.inr rfl)) (pss_cons (ps_set (i := 6) sc__law_seen.nd rfl (.inr rfl) (pe_meth (v_ 0) c_LockTable_held.cl c_LockTable_held.me c_LockTable_held.G (hr.mono (by first | decide | omega)) c_LockTable_held.b .nil pass0 (pa_cons (v_ 5) pa_nil))) (pss_cons (ps_if (pt_not (pt_t K (pe_callB (isiK K) (by rfl) T.z_isinstance (by decide +kernel) (pa_cons (v_ 6) (pa_cons (pe_bltn (v := .ty "list") (u := .type "list") (by rfl) T.z_list (by decide +kernel) rfl) pa_nil))))) (pss_one (ps_ret pe_non)) pss_nil) (pss_cons (ps_setLc (i := 7) (own := [("_law_k", 9)]) (g := gName 9) (by rfl) sc__law_seen.nd rfl rfl (sw_true rfl rfl rfl (by decide +kernel)) (pi_range1 rfl T.z_range (pa_cons (pe_callB (lenK K) (by rfl) T.z_len PySem.boot_len (pa_cons (v_ 1) pa_nil)) pa_nil)) (blkOk_by (N := ["_law_desk", "_law_places", "_law_writers", "_law_rows", "_law_helds", "_law_writer", "_law_held", "_law_due", "_law_place", "_law_k", "_law_row", "_law_pair"]) (sc := defScope s__law_seen) (by decide +kernel)) (fun _ _ _ _ _ => pg_name (i := 9) sc__law_seen.nd rfl (Or.inl rfl)) (fun _ _ _ _ _ => pts_one (pt_c (inK K) (v_ 5) (pe_lc (own := [("_law_pair", 11)]) (g := gName 11) (by rfl) sc__law_seen.nd (pi_listK K (e_x K (v_ 3) (v_ 9))) (blkOk_by (N := ["_law_desk", "_law_places", "_law_writers", "_law_rows", "_law_helds", "_law_writer", "_law_held", "_law_due", "_law_place", "_law_k", "_law_row", "_law_pair"]) (sc := ({ kind := .function, names := [(".0", .local), ("_law_k", .local), ("_law_places", .cell), ("_law_rows", .cell), ("_law_writer", .cell)], isGenerator := false, isCoroutine := false } : Scope)) (by decide +kernel)) (fun _ _ _ _ _ => pg_name (i := 11) sc__law_seen.nd rfl (Or.inl rfl)) (fun _ _ _ _ _ => pts_nil) (fun _ _ _ _ _ => (e_x K (v_ 11) pe_int))))) (fun _ _ _ _ _ => (e_x K (v_ 1) (v_ 9)))) (pss_cons (ps_if (PW.pt (pw_or (pt_c (neK K hr.units) (pe_callB (lenK K) (by rfl) T.z_len PySem.boot_len (pa_cons (v_ 6) pa_nil)) (pe_callB (lenK K) (by rfl) T.z_len PySem.boot_len (pa_cons (v_ 7) pa_nil))) (pw_or1 (pt_c op_gtM (pe_callB (lenK K) (by rfl) T.z_len PySem.boot_len (pa_cons (pe_lc (own := [("_law_place", 8)]) (g := gName 8) (by rfl) sc__law_seen.nd (pi_list (v_ 7)) (blkOk_by (N := ["_law_desk", "_law_places", "_law_writers", "_law_rows", "_law_helds", "_law_writer", "_law_held", "_law_due", "_law_place", "_law_k", "_law_row", "_law_pair"]) (sc := defScope s__law_seen) (by decide +kernel)) (fun _ _ _ _ _ => pg_name (i := 8) sc__law_seen.nd rfl (Or.inl rfl)) (fun _ _ _ _ _ => pts_one (pt_c (notInKy K hr.units) (v_ 8) (v_ 6))) (fun _ _ _ _ _ => (v_ 8))) pa_nil)) pe_int)))) (pss_one (ps_ret pe_non)) pss_nil) (pss_one (ps_expr (pe_bm PySem.F.plainAttrs_list PySem.F.slot_list_append PySem.F.type_list_append mt_append (v_ 4) (pa_cons (v_ 6) pa_nil))))))))) (pss_one (ps_ret (pe_tup (pa_cons (v_ 3) (pa_cons (v_ 4) pa_nil))))))))), ?_⟩
  have psl := hps.len
  have ok : LOk L := by
    obtain ⟨_, _, _, _, _, ok, _⟩ := hL
    exact ok
  obtain ⟨dx, fs, f1, f2, ha⟩ : ∃ dx fs, fs.lookup ("holders" : Str) = none ∧ fs.lookup ("held" : Str) = none ∧ H a = some (.ins a_LockTable dx fs) := by
    obtain ⟨m, p, M, P, g, _⟩ := id hL
    obtain ⟨C, dx, h1, h2⟩ := g.ins
    cases h1.symm.trans T.n_LockTable
    exact ⟨dx, _, rfl, rfl, h2⟩
  -- the rows
  refine ⟨pl, rfl, ⟨_, SqL.of hpl⟩, fun R nR => ?_⟩
  refine lc_it (walk_list (xs := ps)) (fun i H' => Same H H' ∧ ∃ rs, H' R = some (.lst rs) ∧ rs.length = i ∧ ∀ j v, rs[j]? = some v → v ≠ .ref R ∧ RowAt H' v (hF L ks j)) ⟨same_new nR, [], upd_same, rfl, (fun j v e => by simp at e)⟩ (fun _ _ _ h => SqL.of (h.1 _ _ hpl)) ?_ ?_
  · rintro i v H2 H3 hi ⟨s2, rs, hR, rl, hrs⟩ ⟨rfl, hv⟩
    obtain ⟨q, eq, b, rfl, hb⟩ := hps.at hv
    refine ⟨rfl, ?_⟩
    refine ⟨a, dx, fs, rfl, s2 _ _ ha, f1, a, b, q, L, F, n, rfl, s2 _ _ hb, hL.same s2, by omega, fun H4 r ys s4 nr hr4 hys => ?_⟩
    have rR : r ≠ R := (ne_of_none hR nr).symm
    have hR4 := s4 _ _ hR
    refine ⟨rs, hR4, line_lt (by omega), keep_new nR (s2.trans s4), _, upd_same, by rw [List.length_append, rl]; rfl, fun j v ej => ?_⟩
    have put : ∀ v ps, v ≠ .ref R → RowAt H4 v ps → RowAt (upd H4 R (.lst (rs ++ [.ref r]))) v ps := fun v ps nv h => h.put hR4 nv
    rcases snoc_at ej with ⟨lj, ej2⟩ | ⟨ej2, rfl⟩
    · obtain ⟨h1, h2⟩ := hrs j v ej2
      exact ⟨h1, put _ _ h1 (h2.same s4)⟩
    · have nv : V.ref r ≠ .ref R := fun e => rR (V.ref.inj e)
      refine ⟨nv, put _ _ nv ?_⟩
      rw [ej2, rl, hF_at eq]
      exact ⟨r, ys, rfl, hr4, hys⟩
  rintro H2 ⟨s2, rs, hR, rl, hrs⟩
  have hrs : RowsI H2 rs (hF L ks) := fun j v e => (hrs j v e).2
  have fewq : ∀ q, (holdersOf L q).length ≤ 64 := fun q => Nat.le_trans holders_len few
  refine ⟨R, rfl, ⟨_, SqL.of hR⟩, fun D nD => ?_⟩
  refine lc_it (walk_list (xs := rs)) (fun i H' => Same H2 H' ∧ H' D = some (.lst [])) ⟨same_new nD, upd_same⟩ (fun _ _ _ h => SqL.of (h.1 _ _ hR)) ?_ ?_
  · rintro i v H3 H4 hi ⟨s3, hD⟩ ⟨rfl, hv⟩
    obtain ⟨r, xs, rfl, hr3, hxs⟩ := (hrs i v hv).same s3
    refine ⟨rfl, r, wl, xs, _, ws, rfl, hr3, hxs, (s2.trans s3) _ _ hwl, onep ok ex md li _, Nat.le_trans (fewq _) (by decide), by omega, fun H5 s5 => ?_⟩
    exact ⟨s3.trans s5, s5 _ _ hD⟩
  rintro H3 ⟨s3, hD⟩
  refine .inl ⟨_, .inl (SqL.of hD), ?_⟩
  refine ⟨Nat.zero_le _, fun S nS => ?_⟩
  have hR3 := s3 _ _ hR
  have s23 := s2.trans s3
  have hrs := hrs.same s3
  clear s3 hD nD D hR s2
  -- the places held
  refine ⟨wl, rfl, ⟨_, SqL.of ((same_new nS) _ _ (s23 _ _ hwl))⟩, ?_⟩
  refine for_list (K := K) (a := wl) (xs := ws.map V.int) (fun i σ' H' => (∃ y5 y6 y7 y8 y9 y10 y11, σ' = [some (.ref a), some (.ref pl), some (.ref wl), some (.ref R), some (.ref S), y5, y6, y7, y8, y9, y10, y11]) ∧ Same H3 H' ∧ ∃ ss, H' S = some (.lst ss) ∧ ss.length = i ∧ ∀ j v, ss[j]? = some v → v ≠ .ref S ∧ HeldAt H' v (gF L ws j)) ⟨⟨_, _, _, _, _, _, _, rfl⟩, same_new nS, [], upd_same, rfl, (fun j v e => by simp at e)⟩ (fun i σ' H' _ h => SqL.of (h.2.1 _ _ (s23 _ _ hwl))) ?_ ?_
  · rintro i v σ' H4 hi ⟨⟨y5, y6, y7, y8, y9, y10, y11, rfl⟩, s4, ss, hS, sl, hss⟩
    rw [List.getElem?_map] at hi
    obtain ⟨w, hw, rfl⟩ := Option.map_eq_some_iff.mp hi
    have s24 := s23.trans s4
    refine ⟨a, dx, fs, rfl, s24 _ _ ha, f2, a, w, L, F, n, rfl, hL.same s24, fun H5 r ys s5 nr hr5 hys => ?_⟩
    have s25 := s24.trans s5
    have s35 := s4.trans s5
    have yl := hys.len
    have hl := held_len (L := L) (w := w)
    refine ⟨_, _, _, _, true, rfl, .ty _, .base (.lst hr5), kit_ty (by decide +kernel), ?_⟩
    refine .inl ⟨_, .inl (SqL.of (s25 _ _ hpl)), _, rfl, by omega, by omega, fun D nD => ?_⟩
    refine lc_it (walk_range (lo := 0) (n := ps.length)) (fun k H' => Same H5 H' ∧ ∃ us, H' D = some (.lst us) ∧ All2 (KyT H') us (dueP L (ks.take k) w)) ⟨same_new nD, [], upd_same, .nil⟩ (fun _ _ _ _ => True.intro) ?_ ?_
    · rintro k v H6 H7 hk ⟨s6, us, hD, hus⟩ ⟨rfl, ev⟩
      have ev : v = .int (0 + (k : Int)) := ev
      subst ev
      obtain ⟨q, b, ep, eq, hb⟩ : ∃ q b, ps[k]? = some (.ref b) ∧ ks[k]? = some q ∧ H b = some (.tup (q.map kV)) := by
        obtain ⟨q, eq, b, e, hb⟩ := hps.at (List.getElem?_eq_getElem hk)
        exact ⟨q, b, by rw [List.getElem?_eq_getElem hk, e], eq, hb⟩
      have s26 := s25.trans s6
      have s36 := s35.trans s6
      obtain ⟨rv, erv⟩ : ∃ rv, rs[k]? = some rv := ⟨_, List.getElem?_eq_getElem (by omega)⟩
      have hrow := hrs k rv erv
      rw [hF_at eq] at hrow
      obtain ⟨r2, xs, rfl, hr2, hxs⟩ := hrow.same s36
      have aR : atI rs (0 + (k : Int)) = some (.ref r2) := by rw [Int.zero_add]; exact atI_nat erv
      have aP : atI ps (0 + (k : Int)) = some (.ref b) := by rw [Int.zero_add]; exact atI_nat ep
      have xl := hxs.len
      have fq := fewq q
      refine ⟨rfl, _, .inl (SqL.of (s36 _ _ hR3)), _, aR, r2, rfl, ⟨_, SqL.of hr2⟩, fun D2 nD2 => ?_⟩
      refine lc_it (walk_list (xs := xs)) (fun i H' => Same H7 H' ∧ H' D2 = some (.lst ((((holdersOf L q).take i).map (·.1)).map V.int))) ⟨same_new nD2, upd_same⟩ (fun _ _ _ h => SqL.of (h.1 _ _ hr2)) ?_ ?_
      · rintro i v H8 H9 hi ⟨s8, hD2⟩ ⟨rfl, hv⟩
        obtain ⟨⟨x, z⟩, e, t, rfl, ht⟩ := (hxs.same s8).at hv
        have i0 : atI [V.int x, .str z] (0 : Int) = some (.int x) := rfl
        refine ⟨rfl, _, .inr (SqT.of ht), _, i0, _, hD2, line_lt (by rw [List.length_map, List.length_map, List.length_take]; omega), keep_new nD2 s8, ?_⟩
        rw [upd_same, take_snoc e, List.map_append, List.map_append]
        rfl
      rintro H8 ⟨s8, hD2⟩
      rw [xl, List.take_length] at hD2
      refine ⟨_, .inl (SqL.of hD2), rfl, flat_ints, ?_⟩
      have s58 := s6.trans s8
      have s28 := s26.trans s8
      have hus := hus.imp fun v k h => h.same s8
      have hD := s8 _ _ hD
      have ul := hus.len
      have dl : (dueP L (ks.take k) w).length ≤ ks.length := by
        unfold dueP
        refine Nat.le_trans (List.length_filter_le _ _) ?_
        rw [List.length_take]
        omega
      refine ite2 (fun c => ?_) (fun c => ?_)
      · have c : inV (.int w) (((holdersOf L q).map (·.1)).map V.int) = true := c
        rw [inV_int] at c
        refine ⟨_, .inl (SqL.of (s28 _ _ hpl)), _, aP, us, hD, line_lt (by omega), keep_new nD s58, _, upd_same, ?_⟩
        have tp : TupS H8 (upd H8 D (.lst (us ++ [.ref b]))) := TupS.upd fun xs e => by rw [hD] at e; cases e
        unfold dueP
        rw [take_snoc eq, List.filter_append, List.filter_cons_of_pos (by exact c)]
        exact (hus.imp fun v p h => h.tup tp).snoc (KyT.tup ⟨b, rfl, s28 _ _ hb⟩ tp)
      · have c : ¬ inV (.int w) (((holdersOf L q).map (·.1)).map V.int) = true := c
        rw [inV_int] at c
        refine ⟨s58, us, hD, ?_⟩
        unfold dueP
        rw [take_snoc eq, List.filter_append, List.filter_cons_of_neg (by exact c), List.filter_nil, List.append_nil]
        exact hus
    rintro H6 ⟨s6, us, hD, hus⟩
    rw [psl, List.take_length] at hus
    have ul := hus.len
    have dp := due_perm ok li kn w
    have dpl := dp.length_eq
    have s26 := s25.trans s6
    refine .inl ⟨_, .inl (SqL.of (s6 _ _ hr5)), .inl ⟨_, .inl (SqL.of hD), ?_⟩⟩
    refine ite2 (fun c => ?_) (fun _ => ?_)
    · have c : (!decide ((ys.length : Int) = us.length)) = true := c
      rw [decide_eq_true (show (ys.length : Int) = us.length by omega)] at c
      exact absurd c (by decide)
    refine ⟨D, rfl, ⟨_, SqL.of hD⟩, fun D2 nD2 => ?_⟩
    refine lc_it (walk_list (xs := us)) (fun i H' => Same H6 H' ∧ H' D2 = some (.lst [])) ⟨same_new nD2, upd_same⟩ (fun _ _ _ h => SqL.of (h.1 _ _ hD)) ?_ ?_
    · rintro i v H7 H8 hi ⟨s7, hD2⟩ ⟨rfl, hv⟩
      obtain ⟨q, eq, t, rfl, ht⟩ := hus.at hv
      refine ⟨rfl, q, r, ys, heldW L w, ⟨t, rfl, SqT.of (s7 _ _ ht)⟩, rfl, .inr (SqL.of ((s6.trans s7) _ _ hr5)), kys_in (hys.imp fun v k h => h.same (s6.trans s7)), ?_⟩
      refine ite2 (fun c => ?_) (fun c => ⟨s7, hD2⟩)
      have c : (!decide (q ∈ heldW L w)) = true := c
      rw [decide_eq_true (mem_due.mp (List.mem_of_getElem? eq)).2] at c
      exact absurd c (by decide)
    rintro H7 ⟨s7, hD2⟩
    refine .inl ⟨_, .inl (SqL.of hD2), ?_⟩
    have s57 := s6.trans s7
    have hS7 := (s5.trans s57) _ _ hS
    have hi2 := (List.getElem?_eq_some_iff.mp hw).1
    refine ⟨.inl ⟨rfl, _, SqL.of hS7⟩, S, ss, _, rfl, rfl, hS7, line_lt (by omega), ?_⟩
    refine ⟨⟨_, _, _, _, _, _, _, rfl⟩, keep_new nS (s35.trans s57), _, upd_same, by rw [List.length_append, sl]; rfl, fun j v ej => ?_⟩
    have rS : r ≠ S := (ne_of_none hS nr).symm
    rcases snoc_at ej with ⟨lj, ej2⟩ | ⟨ej2, rfl⟩
    · obtain ⟨h1, h2⟩ := hss j v ej2
      exact ⟨h1, (h2.same (s5.trans s57)).put hS7 h1⟩
    · have nv : V.ref r ≠ .ref S := fun e => rS (V.ref.inj e)
      refine ⟨nv, HeldAt.put ?_ hS7 nv⟩
      rw [ej2, sl, gF_at hw]
      exact ⟨r, ys, rfl, s57 _ _ hr5, hys.imp fun v k h => h.same s57⟩
  · rintro σ' H4 ⟨⟨y5, y6, y7, y8, y9, y10, y11, rfl⟩, s4, ss, hS, sl, hss⟩
    rw [List.length_map] at sl
    refine ⟨(by show 2 ≤ sizeLine; decide), fun t nt => ?_⟩
    have s5 := same_new (o := .tup [.ref R, .ref S]) nt
    have s25 := (s23.trans s4).trans s5
    exact qq _ t R S rs ss s25 upd_same (s5 _ _ (s4 _ _ hR3)) (s5 _ _ hS) (by omega) sl ((hrs.same s4).same s5) fun j v e => ((hss j v e).2).same s5
end
section
variable {P : Program} {w : World} {K : PySem.W.Frag} {mg : Str → Option Value} {base : Heap}
variable {a_LockTable : Addr}
/-! ### blockers, and a row after a take -/
theorem block_hold {L : List Lck} {q : Plc} {w : Int} : blockersOf L q w "hold" = ((holdersOf L q).filter fun p => !decide (p.1 = w)).map (·.1) := by
  unfold blockersOf
  congr 1
  refine List.filter_congr fun p _ => ?_
  unfold blocks
  rw [decide_eq_true rfl, Bool.true_or, Bool.and_true]
theorem block_share {L : List Lck} {q : Plc} {w : Int} : blockersOf L q w "share" = (((holdersOf L q).filter fun p => !decide (p.1 = w)).filter fun p => decide (p.2 = ("hold" : Str))).map (·.1) := by
  unfold blockersOf
  rw [List.filter_filter]
  congr 1
  refine List.filter_congr fun p _ => ?_
  unfold blocks
  rw [show decide (("share" : Str) = "hold") = false by decide, Bool.false_or, Bool.and_comm]
def sp__law_blockers_right (K : PySem.W.Frag) : Sp := fun vs H Q _ => ∃ (a R pl wl : Addr) (rs ps : List V) (ks : List Plc) (ws : List Int) (L : List Lck) (F : Addr → Prop) (n : Nat), vs = [.ref a, .ref R, .ref pl, .ref wl] ∧ LkAt K H a L F n ∧ L.length ≤ 64 ∧
  H R = some (.lst rs) ∧ rs.length = ks.length ∧ RowsI H rs (hF L ks) ∧ H pl = some (.lst ps) ∧ All2 (KyT H) ps ks ∧ H wl = some (.lst (ws.map V.int)) ∧ ws.length ≤ 100 ∧ ks.length ≤ 100 ∧
  ∀ H' : Hp, Same H H' → Q (.bl true) H'
theorem len__law_blockers_right {vs : List V} {H : Hp} {Q : VK} {E : XK} (h : sp__law_blockers_right K vs H Q E) : vs.length = 4 := by
  obtain ⟨_, _, _, _, _, _, _, _, _, _, _, rfl, _⟩ := h
  rfl
theorem ok__law_blockers_right {f : Addr} {fd : FuncData} {f__law_same : Addr} {fd__law_same : FuncData} {f_LockTable_blockers : Addr} {fd_LockTable_blockers : FuncData} (F : Fun K "_law_blockers_right" "_law_blockers_right" s__law_blockers_right f fd) (T : Gs K mg a_LockTable) (c__law_same : Cal P w K mg base CX0 26 "_law_same" f__law_same fd__law_same ["_law_actual", "_law_due"] (sp__law_same K)) (c_LockTable_blockers : CalM P w K mg base CX0 2 a_LockTable "blockers" f_LockTable_blockers fd_LockTable_blockers ["self", "place", "writer", "mode"] (sp_LockTable_blockers K)) : FnOk P w K mg base CX0 27 f fd ["_law_desk", "_law_rows", "_law_places", "_law_writers"] (sp__law_blockers_right K) := by
  refine F.ok sc__law_blockers_right (fun vs H Q E h => len__law_blockers_right h) (fun cdv A outer s H vs Q E hr h => ?_)
  obtain ⟨a, R, pl, wl, rs, ps, ks, ws, L, F, n, rfl, hL, few, hR, rl, hrs, hpl, hps, hwl, w1, k1, qq⟩ := h
  refine ⟨_, (pss_cons (ps_for PassesOwn.never rfl (pi_range1 rfl T.z_range (pa_cons (pe_callB (lenK K) (by rfl) T.z_len PySem.boot_len (pa_cons (v_ 2) pa_nil)) pa_nil)) (pg_name (i := 4) sc__law_blockers_right.nd rfl (.inl rfl)) (pss_one (ps_for PassesOwn.never rfl (pi_list (v_ 3)) (pg_name (i := 5) sc__law_blockers_right.nd rfl (.inr rfl)) (pss_cons (ps_setLc (i := 6) (own := [("_law_pair", 8)]) (g := gName 8) (by rfl) sc__law_blockers_right.nd rfl rfl (sw_true rfl rfl rfl (by decide +kernel)) (pi_list (e_x K (v_ 1) (v_ 4))) (blkOk_by (N := ["_law_desk", "_law_rows", "_law_places", "_law_writers", "_law_k", "_law_writer", "_law_others", "_law_due", "_law_pair"]) (sc := defScope s__law_blockers_right) (by decide +kernel)) (fun _ _ _ _ _ => pg_name (i := 8) sc__law_blockers_right.nd rfl (Or.inl rfl)) (fun _ _ _ _ _ => pts_one (pt_c (neK K hr.units) (e_x K (v_ 8) pe_int) (v_ 5))) (fun _ _ _ _ _ => (v_ 8))) (pss_cons (ps_if (pt_not (pt_t K (pe_call c__law_same.G (hr.mono (by first | decide | omega)) rfl c__law_same.m c__law_same.kp c__law_same.b .nil pass0 (pa_cons (pe_meth (v_ 0) c_LockTable_blockers.cl c_LockTable_blockers.me c_LockTable_blockers.G (hr.mono (by first | decide | omega)) c_LockTable_blockers.b .nil pass0 (pa_cons (e_x K (v_ 2) (v_ 4)) (pa_cons (v_ 5) (pa_cons pe_str pa_nil)))) (pa_cons (pe_lc (own := [("_law_pair", 8)]) (g := gName 8) (by rfl) sc__law_blockers_right.nd (pi_list (v_ 6)) (blkOk_by (N := ["_law_desk", "_law_rows", "_law_places", "_law_writers", "_law_k", "_law_writer", "_law_others", "_law_due", "_law_pair"]) (sc := defScope s__law_blockers_right) (by decide +kernel)) (fun _ _ _ _ _ => pg_name (i := 8) sc__law_blockers_right.nd rfl (Or.inl rfl)) (fun _ _ _ _ _ => pts_nil) (fun _ _ _ _ _ => (e_x K (v_ 8) pe_int))) pa_nil))))) (pss_one (ps_ret pe_bl)) pss_nil) (pss_cons (ps_setLc (i := 7) (own := [("_law_pair", 8)]) (g := gName 8) (by rfl) sc__law_blockers_right.nd rfl rfl (sw_true rfl rfl rfl (by decide +kernel)) (pi_list (v_ 6)) (blkOk_by (N := ["_law_desk", "_law_rows", "_law_places", "_law_writers", "_law_k", "_law_writer", "_law_others", "_law_due", "_law_pair"]) (sc := defScope s__law_blockers_right) (by decide +kernel)) (fun _ _ _ _ _ => pg_name (i := 8) sc__law_blockers_right.nd rfl (Or.inl rfl)) (fun _ _ _ _ _ => pts_one (pt_c (eqK K hr.units) (e_x K (v_ 8) pe_int) pe_str)) (fun _ _ _ _ _ => (e_x K (v_ 8) pe_int))) (pss_one (ps_if (pt_not (pt_t K (pe_call c__law_same.G (hr.mono (by first | decide | omega)) rfl c__law_same.m c__law_same.kp c__law_same.b .nil pass0 (pa_cons (pe_meth (v_ 0) c_LockTable_blockers.cl c_LockTable_blockers.me c_LockTable_blockers.G (hr.mono (by first | decide | omega)) c_LockTable_blockers.b .nil pass0 (pa_cons (e_x K (v_ 2) (v_ 4)) (pa_cons (v_ 5) (pa_cons pe_str pa_nil)))) (pa_cons (v_ 7) pa_nil))))) (pss_one (ps_ret pe_bl)) pss_nil)))))))) (pss_one (ps_ret pe_bl))), ?_⟩
  have psl := hps.len
  obtain ⟨dx, fs, f1, ha⟩ : ∃ dx fs, fs.lookup ("blockers" : Str) = none ∧ H a = some (.ins a_LockTable dx fs) := by
    obtain ⟨m, p, M, P, g, _⟩ := id hL
    obtain ⟨C, dx, h1, h2⟩ := g.ins
    cases h1.symm.trans T.n_LockTable
    exact ⟨dx, _, rfl, h2⟩
  refine .inl ⟨_, .inl (SqL.of hpl), _, rfl, by omega, by omega, ?_⟩
  refine for_range (lo := 0) (n := ps.length) (fun i σ' H' => (∃ y4 y5 y6 y7 y8, σ' = [some (.ref a), some (.ref R), some (.ref pl), some (.ref wl), y4, y5, y6, y7, y8]) ∧ Same H H') ⟨⟨_, _, _, _, _, rfl⟩, Same.refl _⟩ ?_ ?_
  · rintro i σ' H1 hi ⟨⟨y4, y5, y6, y7, y8, rfl⟩, s1⟩
    obtain ⟨q, b, ep, eq, hb⟩ : ∃ q b, ps[i]? = some (.ref b) ∧ ks[i]? = some q ∧ H b = some (.tup (q.map kV)) := by
      obtain ⟨q, eq, b, e, hb⟩ := hps.at (List.getElem?_eq_getElem hi)
      exact ⟨q, b, by rw [List.getElem?_eq_getElem hi, e], eq, hb⟩
    obtain ⟨rv, erv⟩ : ∃ rv, rs[i]? = some rv := ⟨_, List.getElem?_eq_getElem (by omega)⟩
    have hrow := hrs i rv erv
    rw [hF_at eq] at hrow
    obtain ⟨r2, xs, rfl, hr2, hxs⟩ := hrow
    have aR : atI rs (0 + (i : Int)) = some (.ref r2) := by rw [Int.zero_add]; exact atI_nat erv
    have aP : atI ps (0 + (i : Int)) = some (.ref b) := by rw [Int.zero_add]; exact atI_nat ep
    have xl := hxs.len
    have hl := holders_len (L := L) (q := q)
    refine ⟨wl, rfl, ⟨_, SqL.of (s1 _ _ hwl)⟩, ?_⟩
    refine for_list (K := K) (a := wl) (xs := ws.map V.int) (fun j σ' H' => (∃ y5 y6 y7 y8, σ' = [some (.ref a), some (.ref R), some (.ref pl), some (.ref wl), some (.int (0 + (i : Int))), y5, y6, y7, y8]) ∧ Same H H') ⟨⟨_, _, _, _, rfl⟩, s1⟩ (fun i σ' H' _ h => SqL.of (h.2 _ _ hwl)) ?_ ?_
    · rintro j v σ' H2 hj ⟨⟨y5, y6, y7, y8, rfl⟩, s2⟩
      rw [List.getElem?_map] at hj
      obtain ⟨w, hw, rfl⟩ := Option.map_eq_some_iff.mp hj
      refine ⟨_, .inl (SqL.of (s2 _ _ hR)), _, aR, r2, rfl, ⟨_, SqL.of (s2 _ _ hr2)⟩, fun D nD => ?_⟩
      refine lc_it (walk_list (xs := xs)) (fun i H' => Same H2 H' ∧ ∃ ys, H' D = some (.lst ys) ∧ PrAs H' ys (((holdersOf L q).take i).filter fun p => !decide (p.1 = w))) ⟨same_new nD, [], upd_same, .nil⟩ (fun _ _ _ h => SqL.of (h.1 _ _ (s2 _ _ hr2))) ?_ ?_
      · rintro i v H3 H4 hi ⟨s3, ys, hD, hys⟩ ⟨rfl, hv⟩
        obtain ⟨⟨x, z⟩, e, t, rfl, ht0⟩ := hxs.at hv
        have ht := (s2.trans s3) _ _ ht0
        have yl := hys.len
        have fl := List.length_filter_le (fun p : Int × Str => !decide (p.1 = w)) ((holdersOf L q).take i)
        rw [List.length_take] at fl
        have i0 : atI [V.int x, .str z] (0 : Int) = some (.int x) := rfl
        refine ⟨rfl, _, .inr (SqT.of ht), _, i0, ?_⟩
        refine ite2 (fun c => ?_) (fun c => ?_)
        · have c : (!decide (x = w)) = true := c
          refine ⟨ys, hD, line_lt (by omega), keep_new nD s3, _, upd_same, ?_⟩
          have tp : TupS H4 (upd H4 D (.lst (ys ++ [.ref t]))) := TupS.upd fun xs e => by rw [hD] at e; cases e
          rw [take_snoc e, List.filter_append, List.filter_cons_of_pos (by exact c)]
          exact (hys.imp fun v p h => h.tup tp).snoc (PrA.tup ⟨t, rfl, ht⟩ tp)
        · have c : ¬ (!decide (x = w)) = true := c
          refine ⟨s3, ys, hD, ?_⟩
          rw [take_snoc e, List.filter_append, List.filter_cons_of_neg (by exact c), List.filter_nil, List.append_nil]
          exact hys
      rintro H3 ⟨s3, oth, hD, hoth⟩
      rw [xl, List.take_length] at hoth
      have s23 := s2.trans s3
      have ol := hoth.len
      have fl := List.length_filter_le (fun p : Int × Str => !decide (p.1 = w)) (holdersOf L q)
      refine ⟨a, dx, fs, rfl, s23 _ _ ha, f1, _, .inl (SqL.of (s23 _ _ hpl)), _, aP, a, b, q, w, "hold", L, F, n, rfl, s23 _ _ hb, hL.same s23, by omega, fun H4 D2 s4 nD2 hD2 => ?_⟩
      have hD4 := s4 _ _ hD
      have hoth4 := hoth.same s4
      refine ⟨D, rfl, ⟨_, SqL.of hD4⟩, fun D3 nD3 => ?_⟩
      refine lc_it (walk_list (xs := oth)) (fun i H' => Same H4 H' ∧ H' D3 = some (.lst (((((holdersOf L q).filter fun p => !decide (p.1 = w)).take i).map (·.1)).map V.int))) ⟨same_new nD3, upd_same⟩ (fun _ _ _ h => SqL.of (h.1 _ _ hD4)) ?_ ?_
      · rintro i v H5 H6 hi ⟨s5, hD3⟩ ⟨rfl, hv⟩
        obtain ⟨⟨x, z⟩, e, t, rfl, ht⟩ := (hoth4.same s5).at hv
        have i0 : atI [V.int x, .str z] (0 : Int) = some (.int x) := rfl
        refine ⟨rfl, _, .inr (SqT.of ht), _, i0, _, hD3, line_lt (by rw [List.length_map, List.length_map, List.length_take]; omega), keep_new nD3 s5, ?_⟩
        rw [upd_same, take_snoc e, List.map_append, List.map_append]
        rfl
      rintro H5 ⟨s5, hD3⟩
      rw [ol, List.take_length] at hD3
      have s45 := s4.trans s5
      have s25 := s23.trans s45
      refine ⟨_, _, rfl, same_ints (s5 _ _ hD2) (by rw [block_hold]; exact hD3) ?_, ?_⟩
      · rw [block_hold, List.length_map]
        omega
      refine ⟨D, rfl, ⟨_, SqL.of (s45 _ _ hD)⟩, fun D4 nD4 => ?_⟩
      refine lc_it (walk_list (xs := oth)) (fun i H' => Same H5 H' ∧ H' D4 = some (.lst ((((((holdersOf L q).filter fun p => !decide (p.1 = w)).take i).filter fun p => decide (p.2 = ("hold" : Str))).map (·.1)).map V.int))) ⟨same_new nD4, upd_same⟩ (fun _ _ _ h => SqL.of (h.1 _ _ (s45 _ _ hD))) ?_ ?_
      · rintro i v H6 H7 hi ⟨s6, hD4⟩ ⟨rfl, hv⟩
        obtain ⟨⟨x, z⟩, e, t, rfl, ht⟩ := ((hoth.same s45).same s6).at hv
        have i0 : atI [V.int x, .str z] (0 : Int) = some (.int x) := rfl
        have i1 : atI [V.int x, .str z] (1 : Int) = some (.str z) := rfl
        have fl2 := List.length_filter_le (fun p : Int × Str => decide (p.2 = ("hold" : Str))) (((holdersOf L q).filter fun p => !decide (p.1 = w)).take i)
        rw [List.length_take] at fl2
        refine ⟨rfl, _, .inr (SqT.of ht), _, i1, ?_⟩
        refine ite2 (fun c => ?_) (fun c => ?_)
        · have c : decide (z = ("hold" : Str)) = true := c
          refine ⟨_, .inr (SqT.of ht), _, i0, _, hD4, line_lt (by rw [List.length_map, List.length_map]; omega), keep_new nD4 s6, ?_⟩
          rw [upd_same, take_snoc e, List.filter_append, List.filter_cons_of_pos (by exact c), List.map_append, List.map_append]
          rfl
        · have c : ¬ decide (z = ("hold" : Str)) = true := c
          refine ⟨s6, ?_⟩
          rw [hD4, take_snoc e, List.filter_append, List.filter_cons_of_neg (by exact c), List.filter_nil, List.append_nil]
      rintro H6 ⟨s6, hD4⟩
      rw [ol, List.take_length] at hD4
      have s26 := s25.trans s6
      have fl2 := List.length_filter_le (fun p : Int × Str => decide (p.2 = ("hold" : Str))) ((holdersOf L q).filter fun p => !decide (p.1 = w))
      refine ⟨a, dx, fs, rfl, s26 _ _ ha, f1, _, .inl (SqL.of (s26 _ _ hpl)), _, aP, a, b, q, w, "share", L, F, n, rfl, s26 _ _ hb, hL.same s26, by omega, fun H7 D5 s7 nD5 hD5 => ?_⟩
      refine ⟨_, _, rfl, same_ints hD5 (by rw [block_share]; exact s7 _ _ hD4) ?_, ?_⟩
      · rw [block_share, List.length_map]
        omega
      exact ⟨⟨_, _, _, _, rfl⟩, s26.trans s7⟩
    · rintro σ' H2 ⟨⟨y5, y6, y7, y8, rfl⟩, s2⟩
      exact ⟨⟨_, _, _, _, _, rfl⟩, s2⟩
  · rintro σ' H1 ⟨_, s1⟩
    exact qq H1 s1
theorem prs_kys {H : Hp} {vs : List V} {ps : List (Int × Str)} (h : PrAs H vs ps) : All2 (KyT H) vs (ps.map fun p => [.inl p.1, .inr p.2]) := by
  induction h with
  | nil => exact .nil
  | cons a _ ih =>
    obtain ⟨t, e, h⟩ := a
    exact .cons ⟨t, e, h⟩ ih
def sp__law_taken (K : PySem.W.Frag) : Sp := fun vs H Q _ => ∃ (r : Addr) (xs : List V) (ps : List (Int × Str)) (w : Int) (md : Str), vs = [.ref r, .int w, .str md] ∧ H r = some (.lst xs) ∧ PrAs H xs ps ∧ ps.length ≤ 1000 ∧
  ∀ (H' : Hp) (p : Addr) (ys : List V), Same H H' → H p = none → H' p = some (.lst ys) → PrAs H' ys (takenP ps w md) → Q (.ref p) H'
theorem len__law_taken {vs : List V} {H : Hp} {Q : VK} {E : XK} (h : sp__law_taken K vs H Q E) : vs.length = 3 := by
  obtain ⟨_, _, _, _, _, rfl, _⟩ := h
  rfl
theorem ok__law_taken {f : Addr} {fd : FuncData} (F : Fun K "_law_taken" "_law_taken" s__law_taken f fd) (T : Gs K mg a_LockTable) : FnOk P w K mg base CX0 1 f fd ["_law_row", "_law_writer", "_law_mode"] (sp__law_taken K) := by
  refine F.ok sc__law_taken (fun vs H Q E h => len__law_taken h) (fun cdv A outer s H vs Q E hr h => ?_)
  obtain ⟨r, xs, ps, w, md, rfl, hr0, hxs, few, qq⟩ := h
  refine ⟨_, (pss_cons (ps_setLc (i := 3) (own := [("_law_pair", 4)]) (g := gName 4) (by rfl) sc__law_taken.nd rfl rfl (sw_true rfl rfl rfl (by decide +kernel)) (pi_list (v_ 0)) (blkOk_by (N := ["_law_row", "_law_writer", "_law_mode", "_law_result", "_law_pair"]) (sc := defScope s__law_taken) (by decide +kernel)) (fun _ _ _ _ _ => pg_name (i := 4) sc__law_taken.nd rfl (Or.inl rfl)) (fun _ _ _ _ _ => pts_one (pt_c op_ltM (e_x K (v_ 4) pe_int) (v_ 1))) (fun _ _ _ _ _ => (v_ 4))) (Evl.pss_cut (ps_if (pt_c (inKy K hr.units) (pe_tup (pa_cons (v_ 1) (pa_cons pe_str pa_nil))) (v_ 0)) (pss_one (ps_set (i := 2) sc__law_taken.nd rfl (.inl rfl) pe_str)) pss_nil) (pss_one (ps_ret (pe_op (addK K) (pe_op (addK K) (v_ 3) (pe_lst (pa_cons (pe_tup (pa_cons (v_ 1) (pa_cons (v_ 2) pa_nil))) pa_nil))) (pe_lc (own := [("_law_pair", 4)]) (g := gName 4) (by rfl) sc__law_taken.nd (pi_list (v_ 0)) (blkOk_by (N := ["_law_row", "_law_writer", "_law_mode", "_law_result", "_law_pair"]) (sc := defScope s__law_taken) (by decide +kernel)) (fun _ _ _ _ _ => pg_name (i := 4) sc__law_taken.nd rfl (Or.inl rfl)) (fun _ _ _ _ _ => pts_one (pt_c op_gtM (e_x K (v_ 4) pe_int) (v_ 1))) (fun _ _ _ _ _ => (v_ 4)))))))), ?_⟩
  have xl := hxs.len
  have part : ∀ (f : Int × Str → Bool) {H2 : Hp} {D : Addr} {i : Nat} {ys : List V} {x : Int} {z : Str} {t : Addr}, Same H H2 → H D = none → H2 D = some (.lst ys) → PrAs H2 ys ((ps.take i).filter f) → ps[i]? = some (x, z) → H t = some (.tup [.int x, .str z]) → f (x, z) = true → ys.length < sizeLine ∧ PrAs (upd H2 D (.lst (ys ++ [.ref t]))) (ys ++ [.ref t]) ((ps.take (i + 1)).filter f) := fun f H2 D i ys x z t s2 nD hD hys e ht c => by
    have tp : TupS H2 (upd H2 D (.lst (ys ++ [.ref t]))) := TupS.upd fun xs e => by rw [hD] at e; cases e
    have yl := hys.len
    have fl := List.length_filter_le f (ps.take i)
    rw [List.length_take] at fl
    rw [take_snoc e, List.filter_append, List.filter_cons_of_pos c]
    exact ⟨line_lt (by omega), (hys.imp fun v p h => h.tup tp).snoc (PrA.tup ⟨t, rfl, s2 _ _ ht⟩ tp)⟩
  have skip : ∀ (f : Int × Str → Bool) {H2 : Hp} {i : Nat} {ys : List V} {x : Int} {z : Str}, PrAs H2 ys ((ps.take i).filter f) → ps[i]? = some (x, z) → ¬ f (x, z) = true → PrAs H2 ys ((ps.take (i + 1)).filter f) := fun f H2 i ys x z hys e c => by
    rw [take_snoc e, List.filter_append, List.filter_cons_of_neg c, List.filter_nil, List.append_nil]
    exact hys
  refine ⟨r, rfl, ⟨_, SqL.of hr0⟩, fun D nD => ?_⟩
  refine lc_it (walk_list (xs := xs)) (fun i H' => Same H H' ∧ ∃ ys, H' D = some (.lst ys) ∧ PrAs H' ys ((ps.take i).filter fun p => decide (p.1 < w))) ⟨same_new nD, [], upd_same, .nil⟩ (fun _ _ _ h => SqL.of (h.1 _ _ hr0)) ?_ ?_
  · rintro i v H2 H3 hi ⟨s2, ys, hD, hys⟩ ⟨rfl, hv⟩
    obtain ⟨⟨x, z⟩, e, t, rfl, ht⟩ := hxs.at hv
    have i0 : atI [V.int x, .str z] (0 : Int) = some (.int x) := rfl
    refine ⟨rfl, _, .inr (SqT.of (s2 _ _ ht)), _, i0, ?_⟩
    refine ite2 (fun c => ?_) (fun c => ?_)
    · obtain ⟨l, h⟩ := part (fun p => decide (p.1 < w)) s2 nD hD hys e ht c
      exact ⟨ys, hD, l, keep_new nD s2, _, upd_same, h⟩
    · exact ⟨s2, ys, hD, skip _ hys e c⟩
  rintro H2 ⟨s2, lo, hD, hlo⟩
  rw [xl, List.take_length] at hlo
  refine ⟨fun σ' H' => σ' = [some (.ref r), some (.int w), some (.str (if (w, ("hold" : Str)) ∈ ps then ("hold" : Str) else md)), some (.ref D), none] ∧ Same H2 H', ?_, ?_⟩
  · refine ⟨(by show 2 ≤ sizeLine; decide), fun u nu => ?_⟩
    have su := same_new (o := .tup [.int w, .str "hold"]) nu
    have s3 := s2.trans su
    refine ⟨[.inl w, .inr "hold"], r, xs, ps.map fun p => [.inl p.1, .inr p.2], ⟨u, rfl, SqT.of upd_same⟩, rfl, .inr (SqL.of (s3 _ _ hr0)), kys_in (prs_kys (hxs.same s3)), ?_⟩
    have em : decide (([.inl w, .inr ("hold" : Str)] : Plc) ∈ ps.map fun p => [.inl p.1, .inr p.2]) = decide ((w, ("hold" : Str)) ∈ ps) := by
      refine decide_eq_decide.mpr ?_
      rw [List.mem_map]
      constructor
      · rintro ⟨⟨x, z⟩, hp, e⟩
        injection e with e1 e2
        injection e2 with e2
        rw [← Sum.inl.inj e1, ← Sum.inr.inj e2]
        exact hp
      · intro h
        exact ⟨_, h, rfl⟩
    refine ite2 (fun c => ?_) (fun c => ?_)
    · have c : decide (([.inl w, .inr ("hold" : Str)] : Plc) ∈ ps.map fun p => [.inl p.1, .inr p.2]) = true := c
      rw [em] at c
      rw [if_pos (of_decide_eq_true c)]
      exact ⟨rfl, su⟩
    · have c : ¬ decide (([.inl w, .inr ("hold" : Str)] : Plc) ∈ ps.map fun p => [.inl p.1, .inr p.2]) = true := c
      rw [em] at c
      rw [if_neg fun h => c (decide_eq_true h)]
      exact ⟨rfl, su⟩
  rintro σ' H3 ⟨rfl, s23⟩
  have s3 := s2.trans s23
  have hD3 := s23 _ _ hD
  have hlo := hlo.same s23
  refine ⟨(by show 2 ≤ sizeLine; decide), fun u nu => ?_⟩
  have su := same_new (o := .tup [.int w, .str (if (w, ("hold" : Str)) ∈ ps then ("hold" : Str) else md)]) nu
  have hu := upd_same (H := H3) (a := u) (o := .tup [.int w, .str (if (w, ("hold" : Str)) ∈ ps then ("hold" : Str) else md)])
  generalize upd H3 u (.tup [.int w, .str (if (w, ("hold" : Str)) ∈ ps then ("hold" : Str) else md)]) = H4 at su hu ⊢
  refine ⟨(by show 1 ≤ sizeLine; decide), fun b nb => ?_⟩
  have sb := same_new (o := .lst [V.ref u]) nb
  have lol := hlo.len
  have fl := List.length_filter_le (fun p : Int × Str => decide (p.1 < w)) ps
  refine .inl ⟨_, _, sb _ _ (su _ _ hD3), upd_same, line_of (by rw [List.length_singleton]; omega), fun c nc => ?_⟩
  have sc := same_new (o := .lst (lo ++ [V.ref u])) nc
  have hc := upd_same (H := upd H4 b (.lst [V.ref u])) (a := c) (o := .lst (lo ++ [V.ref u]))
  have hu := sc _ _ (sb _ _ hu)
  have s34 := (su.trans sb).trans sc
  generalize upd (upd H4 b (.lst [V.ref u])) c (.lst (lo ++ [V.ref u])) = H5 at hc hu s34 ⊢
  clear sb sc su nb nc
  have s35 := s3.trans s34
  refine ⟨r, rfl, ⟨_, SqL.of (s35 _ _ hr0)⟩, fun D2 nD2 => ?_⟩
  refine lc_it (walk_list (xs := xs)) (fun i H' => Same H5 H' ∧ ∃ ys, H' D2 = some (.lst ys) ∧ PrAs H' ys ((ps.take i).filter fun p => decide (w < p.1))) ⟨same_new nD2, [], upd_same, .nil⟩ (fun _ _ _ h => SqL.of (h.1 _ _ (s35 _ _ hr0))) ?_ ?_
  · rintro i v H6 H7 hi ⟨s6, ys, hD2, hys⟩ ⟨rfl, hv⟩
    obtain ⟨⟨x, z⟩, e, t, rfl, ht⟩ := hxs.at hv
    have i0 : atI [V.int x, .str z] (0 : Int) = some (.int x) := rfl
    have s36 := s35.trans s6
    refine ⟨rfl, _, .inr (SqT.of (s36 _ _ ht)), _, i0, ?_⟩
    refine ite2 (fun c => ?_) (fun c => ?_)
    · obtain ⟨l, h⟩ := part (fun p => decide (w < p.1)) s36 (Same.free s35 nD2) hD2 hys e ht c
      exact ⟨ys, hD2, l, keep_new nD2 s6, _, upd_same, h⟩
    · exact ⟨s6, ys, hD2, skip _ hys e c⟩
  rintro H6 ⟨s6, hi, hD2, hhi⟩
  rw [xl, List.take_length] at hhi
  have hil := hhi.len
  have fl2 := List.length_filter_le (fun p : Int × Str => decide (w < p.1)) ps
  refine .inl ⟨_, _, s6 _ _ hc, hD2, line_of (by rw [List.length_append, List.length_singleton]; omega), fun d nd => ?_⟩
  have sd := same_new (o := .lst (lo ++ [V.ref u] ++ hi)) nd
  have s7 := s35.trans s6
  refine qq _ d _ (s7.trans sd) (Same.free s7 nd) upd_same ?_
  unfold takenP
  exact ((((hlo.same s34).same s6).same sd).snoc ⟨u, rfl, sd _ _ (s6 _ _ hu)⟩).app (hhi.same sd)
def sp__law_free_told (K : PySem.W.Frag) : Sp := fun vs H Q _ => ∃ (a u : Addr) (w : Int) (zs : List V) (L : List Lck) (ks : List Plc) (F : Addr → Prop) (n : Nat), vs = [.ref a, .int w, .ref u] ∧ LkAt K H a L F n ∧ H u = some (.lst zs) ∧ All2 (KyT H) zs ks ∧ ks.length ≤ 2 ∧ L.length ≤ 1000 ∧
  ∀ H' : Hp, KeepF F H H' → LkAt K H' a (freeAllL L w ks) F n → Q (.int (((heldW L w).filter fun q => !decide (q ∈ ks)).length : Int)) H'
theorem len__law_free_told {vs : List V} {H : Hp} {Q : VK} {E : XK} (h : sp__law_free_told K vs H Q E) : vs.length = 3 := by
  obtain ⟨_, _, _, _, _, _, _, _, rfl, _⟩ := h
  rfl
theorem ok__law_free_told {f : Addr} {fd : FuncData} {f_LockTable_free_all : Addr} (F : Fun K "_law_free_told" "_law_free_told" s__law_free_told f fd) (T : Gs K mg a_LockTable) (c_LockTable_free_all : CalMV P w K mg base CX0 2 a_LockTable "free_all" f_LockTable_free_all 2 (sp_LockTable_free_all K)) : FnOk P w K mg base CX0 3 f fd ["_law_desk", "_law_writer", "_law_but"] (sp__law_free_told K) := by
  refine F.ok sc__law_free_told (fun vs H Q E h => len__law_free_told h) (fun cdv A outer s H vs Q E hr h => ?_)
  obtain ⟨a, u, w, zs, L, ks, F, n, rfl, hL, hu, hzs, k2, few, qq⟩ := h
  refine ⟨_, (pss_cons (ps_if (pt_c (eqK K hr.units) (pe_callB (lenK K) (by rfl) T.z_len PySem.boot_len (pa_cons (v_ 2) pa_nil)) pe_int) (pss_one (ps_ret (pe_methR (v_ 0) c_LockTable_free_all.cl c_LockTable_free_all.me c_LockTable_free_all.G (hr.mono (by first | decide | omega)) pass0 (pa_cons (v_ 1) pa_nil)))) pss_nil) (pss_cons (ps_if (pt_c (eqK K hr.units) (pe_callB (lenK K) (by rfl) T.z_len PySem.boot_len (pa_cons (v_ 2) pa_nil)) pe_int) (pss_one (ps_ret (pe_methR (v_ 0) c_LockTable_free_all.cl c_LockTable_free_all.me c_LockTable_free_all.G (hr.mono (by first | decide | omega)) pass0 (pa_cons (v_ 1) (pa_cons (e_x K (v_ 2) pe_int) pa_nil))))) pss_nil) (pss_one (ps_ret (pe_methR (v_ 0) c_LockTable_free_all.cl c_LockTable_free_all.me c_LockTable_free_all.G (hr.mono (by first | decide | omega)) pass0 (pa_cons (v_ 1) (pa_cons (e_x K (v_ 2) pe_int) (pa_cons (e_x K (v_ 2) pe_int) pa_nil)))))))), ?_⟩
  obtain ⟨dx, fs, f4, ha⟩ : ∃ dx fs, fs.lookup ("free_all" : Str) = none ∧ H a = some (.ins a_LockTable dx fs) := by
    obtain ⟨m, p, M, P, g, _⟩ := id hL
    obtain ⟨C, dx, h1, h2⟩ := g.ins
    cases h1.symm.trans T.n_LockTable
    exact ⟨dx, _, rfl, h2⟩
  have zl := hzs.len
  have go : ∀ (rest : List V), rest = zs → spV 2 (sp_LockTable_free_all K) (.ref a :: .int w :: rest) H Q E0 := fun rest e => by
    subst e
    refine ⟨[.ref a, .int w], rest, rfl, rfl, Nat.le_trans (show rest.length ≤ 2 by omega) (by decide), fun t nt => ?_⟩
    have st := same_new (o := .tup rest) nt
    refine ⟨a, t, w, rest, ks, L, F, n, rfl, upd_same, hzs.imp fun v k h => h.same st, hL.same st, by omega, fun H1 k1 hL1 => ?_⟩
    exact qq H1 ((KeepF.same st).trans k1 fun b h => .inl h) hL1
  refine .inl ⟨_, .inl (SqL.of hu), ?_⟩
  refine ite2 (fun c4 => ?_) (fun c4 => ?_)
  · have c4 : (zs.length : Int) = 0 := of_decide_eq_true c4
    have e : zs = [] := List.length_eq_zero_iff.mp (by omega)
    exact ⟨a, dx, fs, rfl, ha, f4, go [] e.symm⟩
  have c4 : ¬ (zs.length : Int) = 0 := of_decide_eq_false (Bool.eq_false_iff.mpr c4)
  refine .inl ⟨_, .inl (SqL.of hu), ?_⟩
  refine ite2 (fun c5 => ?_) (fun c5 => ?_)
  · have c5 : (zs.length : Int) = 1 := of_decide_eq_true c5
    obtain ⟨x, rfl⟩ := List.length_eq_one_iff.mp (show zs.length = 1 by omega)
    exact ⟨a, dx, fs, rfl, ha, f4, _, .inl (SqL.of hu), x, rfl, go [x] rfl⟩
  have c5 : ¬ (zs.length : Int) = 1 := of_decide_eq_false (Bool.eq_false_iff.mpr c5)
  obtain ⟨x, y, rfl⟩ : ∃ x y, zs = [x, y] := by
    rcases zs with _ | ⟨x, _ | ⟨y, _ | ⟨z, zs⟩⟩⟩
    · exact absurd rfl c4
    · exact absurd rfl c5
    · exact ⟨x, y, rfl⟩
    · exact absurd zl (by rw [List.length_cons, List.length_cons, List.length_cons]; omega)
  exact ⟨a, dx, fs, rfl, ha, f4, _, .inl (SqL.of hu), x, rfl, _, .inl (SqL.of hu), y, rfl, go [x, y] rfl⟩
end
section
variable {P : Program} {w : World} {K : PySem.W.Frag} {mg : Str → Option Value} {base : Heap}
variable {a_LockTable : Addr}
def spLaw (K : PySem.W.Frag) : Sp := fun vs H Q _ => ∃ (a : Addr) (ns : List Int), vs = [.ref a] ∧ SqL K H a (ns.map V.int) ∧ ns.length ≤ 63 ∧ ∀ H', Q (.bl true) H'
abbrev sp_law := spLaw
theorem len_law {vs : List V} {H : Hp} {Q : VK} {E : XK} (h : sp_law K vs H Q E) : vs.length = 1 := by
  obtain ⟨_, _, rfl, _⟩ := h
  rfl
/-- the names' values, written flat -/
theorem g_is {i : Nat} {v : V} {σ : L2.St} {H : Hp} {Q : L2.St → Hp → Prop} (σ' : L2.St) (e : σ.set i (some v) = σ') (h : Q σ' H) : gName i v σ H Q := by
  unfold gName
  rw [e]
  exact h
/-! ### one step -/
/-- all stands, the state and the table's dicts aside -/
def KpX (st : Addr) (F : Addr → Prop) (H H' : Hp) : Prop := ∀ b o, b ≠ st → ¬ F b → H b = some o → H' b = some o
theorem KpX.same {st : Addr} {F : Addr → Prop} {H H' : Hp} (s : Same H H') : KpX st F H H' := fun b o _ _ h => s b o h
theorem KpX.bt {st : Addr} {F : Addr → Prop} {H H' : Hp} (s : Bt st H H') : KpX st F H H' := fun b o n _ h => s b o n h
theorem KpX.keep {st : Addr} {F : Addr → Prop} {H H' : Hp} (s : KeepF F H H') : KpX st F H H' := fun b o _ n h => s b o n h
theorem KpX.trans {st : Addr} {F : Addr → Prop} {H H1 H2 : Hp} (a : KpX st F H H1) (b : KpX st F H1 H2) : KpX st F H H2 := fun c o n f h => b c o n f (a c o n f h)
/-- a list changed that was not yet there -/
theorem KpX.new {st D : Addr} {F : Addr → Prop} {H H1 : Hp} {o : HO} (a : KpX st F H H1) (n : H D = none) : KpX st F H (upd H1 D o) := fun c p h1 h2 h => by
  rw [upd_ne (ne_of_none h n)]
  exact a c p h1 h2 h
theorem not_dict {H : Hp} {a : Addr} {L : List Lck} {F : Addr → Prop} {n : Nat} (g : LkAt K H a L F n) {b : Addr} {o : HO} (h : H b = some o) (n1 : ∀ kv, o ≠ .dK kv) (n2 : ∀ kv, o ≠ .dT kv) : ¬ F b := fun f => by
  rcases g.dict f with ⟨_, e⟩ | ⟨_, e⟩
  · rw [h] at e; cases e; exact n1 _ rfl
  · rw [h] at e; cases e; exact n2 _ rfl
theorem KpX.lst {st : Addr} {H H' : Hp} {a : Addr} {L : List Lck} {F : Addr → Prop} {n : Nat} (g : LkAt K H a L F n) (k : KpX st F H H') {b : Addr} {xs : List V} (ne : b ≠ st) (h : H b = some (.lst xs)) : H' b = some (.lst xs) :=
  k b _ ne (not_dict g h (by intro _ z; cases z) (by intro _ z; cases z)) h
theorem KpX.tups {st scr : Addr} {H H' : Hp} {a : Addr} {L : List Lck} {F : Addr → Prop} {n : Nat} (d : DrAt H st scr) (g : LkAt K H a L F n) (k : KpX st F H H') : TupS H H' := fun b xs h =>
  k b _ (fun e => by
    obtain ⟨l, hl⟩ := d.lst
    rw [e, hl] at h
    cases h) (not_dict g h (by intro _ z; cases z) (by intro _ z; cases z)) h
theorem row_ne_st {st scr r : Addr} {H : Hp} {xs : List V} {ps : List (Int × Str)} (d : DrAt H st scr) (h : H r = some (.lst xs)) (hx : PrAs H xs ps) : r ≠ st := fun e => by
  obtain ⟨ns, i, v, m, c, e1, _⟩ := d
  rw [e, e1] at h
  cases h
  unfold stv at hx
  cases hx with
  | cons a r =>
    cases r with
    | cons b r =>
      obtain ⟨_, e, _⟩ := b
      cases e
theorem held_ne_st {st scr r : Addr} {H : Hp} {xs : List V} {ps : List Plc} (d : DrAt H st scr) (h : H r = some (.lst xs)) (hx : All2 (KyT H) xs ps) : r ≠ st := fun e => by
  obtain ⟨ns, i, v, m, c, e1, _⟩ := d
  rw [e, e1] at h
  cases h
  unfold stv at hx
  cases hx with
  | cons a r =>
    cases r with
    | cons b r =>
      obtain ⟨_, e, _⟩ := b
      cases e
theorem RowAt.kp {st scr : Addr} {H H' : Hp} {a : Addr} {L : List Lck} {F : Addr → Prop} {n : Nat} {v : V} {ps : List (Int × Str)} (h : RowAt H v ps) (d : DrAt H st scr) (g : LkAt K H a L F n) (k : KpX st F H H') : RowAt H' v ps := by
  obtain ⟨r, xs, e, h, hx⟩ := h
  exact ⟨r, xs, e, k.lst g (row_ne_st d h hx) h, hx.imp fun v p z => z.tup (k.tups d g)⟩
theorem HeldAt.kp {st scr : Addr} {H H' : Hp} {a : Addr} {L : List Lck} {F : Addr → Prop} {n : Nat} {v : V} {qs : List Plc} (h : HeldAt H v qs) (d : DrAt H st scr) (g : LkAt K H a L F n) (k : KpX st F H H') : HeldAt H' v qs := by
  obtain ⟨r, xs, e, h, hx⟩ := h
  exact ⟨r, xs, e, k.lst g (held_ne_st d h hx) h, hx.imp fun v p z => z.tup (k.tups d g)⟩
theorem RowAt.ne {H : Hp} {v : V} {ps : List (Int × Str)} {b : Addr} (h : RowAt H v ps) (n : H b = none) : v ≠ .ref b := fun e => by
  obtain ⟨r, xs, e2, h, _⟩ := h
  rw [e] at e2
  cases e2
  rw [n] at h
  cases h
theorem HeldAt.ne {H : Hp} {v : V} {qs : List Plc} {b : Addr} (h : HeldAt H v qs) (n : H b = none) : v ≠ .ref b := fun e => by
  obtain ⟨r, xs, e2, h, _⟩ := h
  rw [e] at e2
  cases e2
  rw [n] at h
  cases h
theorem LkAt.bt {st scr : Addr} {H H' : Hp} {a : Addr} {L : List Lck} {F : Addr → Prop} {n : Nat} (d : DrAt H st scr) (g : LkAt K H a L F n) (k : Bt st H H') : LkAt K H' a L F n := g.keep fun c o hc h => k c o (fun e => by
  obtain ⟨l, hl⟩ := d.lst
  rw [e, hl] at h
  cases h
  rcases hc with hc | hc
  · obtain ⟨m, p, M, P, g, _⟩ := id g
    obtain ⟨C, dx, h1, h2⟩ := g.ins
    rw [← hc, e, hl] at h2
    cases h2
  · rw [e] at hc
    rcases g.dict hc with ⟨_, g⟩ | ⟨_, g⟩
    · rw [hl] at g; cases g
    · rw [hl] at g; cases g) h
theorem LkAt.upd {b : Addr} {xs ys : List V} {H : Hp} {a : Addr} {L : List Lck} {F : Addr → Prop} {n : Nat} (g : LkAt K H a L F n) (hb : H b = some (.lst xs)) : LkAt K (L2.upd H b (.lst ys)) a L F n := g.keep fun c o hc h => by
  rw [upd_ne]
  · exact h
  · intro e
    rw [e, hb] at h
    cases h
    rcases hc with hc | hc
    · obtain ⟨m, p, M, P, g, _⟩ := id g
      obtain ⟨C, dx, h1, h2⟩ := g.ins
      rw [← hc, e, hb] at h2
      cases h2
    · rw [e] at hc
      rcases g.dict hc with ⟨_, g⟩ | ⟨_, g⟩
      · rw [hb] at g; cases g
      · rw [hb] at g; cases g
theorem dr_keep {st scr : Addr} {H H' : Hp} {a : Addr} {L : List Lck} {F : Addr → Prop} {n : Nat} (d : DrAt H st scr) (g : LkAt K H a L F n) (k : KeepF F H H') : DrAt H' st scr := by
  obtain ⟨ns, i, v, m, c, e1, e2, h⟩ := d
  exact ⟨ns, i, v, m, c, g.stay k e1 (by intro _ z; cases z) (by intro _ z; cases z), g.stay k e2 (by intro _ z; cases z) (by intro _ z; cases z), h⟩
theorem ixN_of {n i : Nat} (h : i < n) : ixN n (i : Int) = some i := by
  unfold ixN
  rw [if_pos (by omega), if_pos (by omega)]
  rfl
theorem set_at {α : Type} {xs : List α} {i j : Nat} {x v : α} (e : (xs.set i x)[j]? = some v) : (j = i ∧ v = x) ∨ (j ≠ i ∧ xs[j]? = some v) := by
  by_cases c : j = i
  · subst c
    have hl := (List.getElem?_eq_some_iff.mp e).1
    rw [List.length_set] at hl
    rw [List.getElem?_set_self hl] at e
    exact .inl ⟨rfl, (Option.some.inj e).symm⟩
  · rw [List.getElem?_set_ne (fun z => c z.symm)] at e
    exact .inr ⟨c, e⟩
theorem idx_ne {α : Type} {xs : List α} {i j : Nat} {x y : α} (nd : xs.Nodup) (hi : xs[i]? = some x) (hj : xs[j]? = some y) (ne : j ≠ i) : y ≠ x := fun e => by
  subst e
  have h := (List.getElem?_eq_some_iff.mp hj).1
  exact ne ((List.getElem?_inj h nd).mp (hj.trans hi.symm))
theorem hF_take {L : List Lck} {ks : List Plc} {i j : Nat} {q : Plc} {w : Int} {m : Str} (ok : LOk L) (kn : ks.Nodup) (e : ks[i]? = some q) (hj : j < ks.length) : hF (takeL L q w m) ks j = if j = i then takenP (holdersOf L q) w m else hF L ks j := by
  by_cases c : j = i
  · subst c
    rw [if_pos rfl, hF_at e, holders_take ok]
  · have ej := List.getElem?_eq_getElem hj
    rw [if_neg c, hF_at ej, hF_at ej, holders_take_ne (idx_ne kn e ej c)]
theorem hF_free {L : List Lck} {ks : List Plc} {i j : Nat} {q : Plc} {w : Int} (ok : LOk L) (kn : ks.Nodup) (e : ks[i]? = some q) (hj : j < ks.length) : hF (freeL L q w) ks j = if j = i then (holdersOf L q).filter (fun p => !decide (p.1 = w)) else hF L ks j := by
  by_cases c : j = i
  · subst c
    rw [if_pos rfl, hF_at e, holders_free ok]
  · have ej := List.getElem?_eq_getElem hj
    rw [if_neg c, hF_at ej, hF_at ej, holders_free_ne (idx_ne kn e ej c)]
theorem gF_take {L : List Lck} {ws : List Int} {i j : Nat} {q : Plc} {w : Int} {m : Str} (wn : ws.Nodup) (e : ws[i]? = some w) (hj : j < ws.length) : gF (takeL L q w m) ws j = if j = i then heldW L w ++ ([q].filter fun r => !decide (r ∈ heldW L w)) else gF L ws j := by
  have ej := List.getElem?_eq_getElem hj
  by_cases c : j = i
  · subst c
    rw [if_pos rfl, gF_at e, held_take]
    by_cases d : q ∈ heldW L w
    · rw [if_neg (fun z => z.2 d), List.filter_cons_of_neg (by rw [decide_eq_true d]; decide), List.filter_nil, List.append_nil]
    · rw [if_pos ⟨rfl, d⟩, List.filter_cons_of_pos (by rw [decide_eq_false d]; rfl), List.filter_nil]
  · rw [if_neg c, gF_at ej, gF_at ej, held_take, if_neg fun z => idx_ne wn e ej c z.1]
theorem gF_free {L : List Lck} {ws : List Int} {i j : Nat} {q : Plc} {w : Int} (wn : ws.Nodup) (e : ws[i]? = some w) (hj : j < ws.length) : gF (freeL L q w) ws j = if j = i then (heldW L w).filter (fun r => !decide (r = q)) else gF L ws j := by
  have ej := List.getElem?_eq_getElem hj
  by_cases c : j = i
  · subst c
    rw [if_pos rfl, gF_at e, held_free, if_pos rfl]
  · rw [if_neg c, gF_at ej, gF_at ej, held_free, if_neg (idx_ne wn e ej c)]
theorem gF_free_all {L : List Lck} {ws : List Int} {i j : Nat} {kb : List Plc} {w : Int} (wn : ws.Nodup) (e : ws[i]? = some w) (hj : j < ws.length) : gF (freeAllL L w kb) ws j = if j = i then (heldW L w).filter (fun r => decide (r ∈ kb)) else gF L ws j := by
  have ej := List.getElem?_eq_getElem hj
  by_cases c : j = i
  · subst c
    rw [if_pos rfl, gF_at e, held_free_all, if_pos rfl]
  · rw [if_neg c, gF_at ej, gF_at ej, held_free_all, if_neg (idx_ne wn e ej c)]
/-- a row of the rows, put anew -/
theorem set_rows {H : Hp} {R : Addr} {rs : List V} {F : Nat → List (Int × Str)} {i : Nat} {v : V} {ps : List (Int × Str)} (h : RowsI H rs F) (hn : ∀ (j : Nat) (u : V), rs[j]? = some u → u ≠ .ref R) (hR : H R = some (.lst rs)) (hv : RowAt H v ps) (nv : v ≠ .ref R) : RowsI (upd H R (.lst (rs.set i v))) (rs.set i v) (fun j => if j = i then ps else F j) := fun j u e => by
  rcases set_at e with ⟨c, rfl⟩ | ⟨c, e2⟩
  · show RowAt _ u (if j = i then ps else F j)
    rw [if_pos c]
    exact hv.put hR nv
  · show RowAt _ u (if j = i then ps else F j)
    rw [if_neg c]
    exact (h j u e2).put hR (hn j u e2)
theorem set_helds {H : Hp} {S : Addr} {ss : List V} {G : Nat → List Plc} {i : Nat} {v : V} {qs : List Plc} (h : HeldsI H ss G) (hn : ∀ (j : Nat) (u : V), ss[j]? = some u → u ≠ .ref S) (hS : H S = some (.lst ss)) (hv : HeldAt H v qs) (nv : v ≠ .ref S) : HeldsI (upd H S (.lst (ss.set i v))) (ss.set i v) (fun j => if j = i then qs else G j) := fun j u e => by
  rcases set_at e with ⟨c, rfl⟩ | ⟨c, e2⟩
  · show HeldAt _ u (if j = i then qs else G j)
    rw [if_pos c]
    exact hv.put hS nv
  · show HeldAt _ u (if j = i then qs else G j)
    rw [if_neg c]
    exact (h j u e2).put hS (hn j u e2)
theorem RowsI.put {H : Hp} {D : Addr} {us ys : List V} {rs : List V} {F : Nat → List (Int × Str)} (h : RowsI H rs F) (hD : H D = some (.lst us)) (hn : ∀ (j : Nat) (u : V), rs[j]? = some u → u ≠ .ref D) : RowsI (upd H D (.lst ys)) rs F := fun j u e => (h j u e).put hD (hn j u e)
theorem HeldsI.put {H : Hp} {D : Addr} {us ys : List V} {ss : List V} {G : Nat → List Plc} (h : HeldsI H ss G) (hD : H D = some (.lst us)) (hn : ∀ (j : Nat) (u : V), ss[j]? = some u → u ≠ .ref D) : HeldsI (upd H D (.lst ys)) ss G := fun j u e => (h j u e).put hD (hn j u e)
theorem RowsI.congr {H : Hp} {rs : List V} {F F' : Nat → List (Int × Str)} (h : RowsI H rs F) (e : ∀ j, j < rs.length → F' j = F j) : RowsI H rs F' := fun j u c => by
  rw [e j (List.getElem?_eq_some_iff.mp c).1]
  exact h j u c
theorem HeldsI.congr {H : Hp} {ss : List V} {G G' : Nat → List Plc} (h : HeldsI H ss G) (e : ∀ j, j < ss.length → G' j = G j) : HeldsI H ss G' := fun j u c => by
  rw [e j (List.getElem?_eq_some_iff.mp c).1]
  exact h j u c
theorem same_rows {H : Hp} {p q : Addr} {rs us : List V} {F : Nat → List (Int × Str)} (h1 : H p = some (.lst rs)) (h2 : H q = some (.lst us)) (a : RowsI H rs F) (b : RowsI H us F) (l : rs.length = us.length) (l4 : us.length ≤ 100) (few : ∀ j, (F j).length ≤ 1000) : SameV K H 24 (.ref p) (.ref q) :=
  .inr (.inr (.inl ⟨p, q, rs, us, rfl, rfl, h1, h2, l, by omega, fun i u v hu hv => by
    obtain ⟨r, xs, rfl, g1, k1⟩ := a i u hu
    obtain ⟨r2, ys, rfl, g2, k2⟩ := b i v hv
    have f := few i
    refine .inr (.inr (.inl ⟨r, r2, xs, ys, rfl, rfl, g1, g2, by rw [k1.len, k2.len], by rw [k2.len]; exact f, fun i u v hu hv => ?_⟩))
    obtain ⟨x, ex, t, rfl, ht⟩ := k1.at hu
    obtain ⟨y, ey, t2, rfl, ht2⟩ := k2.at hv
    rw [ex] at ey
    cases ey
    refine same_tupN (n := 21) (SqT.of ht) (SqT.of ht2) rfl (by show 2 ≤ 1000; decide) fun i a b ha hb => ?_
    match i, ha, hb with
    | 0, ha, hb => cases ha; cases hb; exact same_int _
    | 1, ha, hb => cases ha; cases hb; exact same_str _⟩))
theorem same_helds {H : Hp} {p q : Addr} {rs us : List V} {G : Nat → List Plc} (h1 : H p = some (.lst rs)) (h2 : H q = some (.lst us)) (a : HeldsI H rs G) (b : HeldsI H us G) (l : rs.length = us.length) (l4 : us.length ≤ 100) (few : ∀ j, (G j).length ≤ 1000) (hk : ∀ j, ∀ k ∈ G j, k.length ≤ 10) : SameV K H 24 (.ref p) (.ref q) :=
  .inr (.inr (.inl ⟨p, q, rs, us, rfl, rfl, h1, h2, l, by omega, fun i u v hu hv => by
    obtain ⟨r, xs, rfl, g1, k1⟩ := a i u hu
    obtain ⟨r2, ys, rfl, g2, k2⟩ := b i v hv
    have f := few i
    refine .inr (.inr (.inl ⟨r, r2, xs, ys, rfl, rfl, g1, g2, by rw [k1.len, k2.len], by rw [k2.len]; exact f, fun j u v hu hv => ?_⟩))
    obtain ⟨x, ex, t, rfl, ht⟩ := k1.at hu
    obtain ⟨y, ey, t2, rfl, ht2⟩ := k2.at hv
    rw [ex] at ey
    cases ey
    have := hk i x (List.mem_of_getElem? ex)
    refine same_tupN (n := 21) (SqT.of ht) (SqT.of ht2) rfl (by rw [List.length_map]; omega) fun i a b ha hb => ?_
    rw [ha] at hb
    cases hb
    rw [List.getElem?_map] at ha
    obtain ⟨z, hz, rfl⟩ := Option.map_eq_some_iff.mp ha
    cases z with
    | inl i => exact same_int i
    | inr z => exact same_str z⟩))
def sp__law_step_right (K : PySem.W.Frag) : Sp := fun vs H Q _ => ∃ (st scr a bf R S pl wl : Addr) (rs ss ps : List V) (ks : List Plc) (ws : List Int) (L : List Lck) (F : Addr → Prop) (n : Nat), vs = [.ref st, .ref a, .ref bf, .ref pl, .ref wl] ∧ DrAt H st scr ∧ LkAt K H a L F n ∧ LEx L ∧ MdOk L ∧ LIn L ks ws ∧ L.length ≤ n ∧ n < 60 ∧
  H bf = some (.tup [.ref R, .ref S]) ∧ H R = some (.lst rs) ∧ H S = some (.lst ss) ∧ rs.length = ks.length ∧ ss.length = ws.length ∧ RowsI H rs (hF L ks) ∧ HeldsI H ss (gF L ws) ∧
  H pl = some (.lst ps) ∧ All2 (KyT H) ps ks ∧ H wl = some (.lst (ws.map V.int)) ∧ pl ≠ st ∧ wl ≠ st ∧ ws.length = 4 ∧ ks.length = 4 ∧ ks.Nodup ∧ ws.Nodup ∧ (∀ k ∈ ks, k.length ≤ 10) ∧
  ∀ (H' : Hp) (L' : List Lck) (F' : Addr → Prop), KpX st F H H' → DrAt H' st scr → LkAt K H' a L' F' (n + 1) → LEx L' → MdOk L' → LIn L' ks ws → L'.length ≤ n + 1 → Q (.bl true) H'
theorem len__law_step_right {vs : List V} {H : Hp} {Q : VK} {E : XK} (h : sp__law_step_right K vs H Q E) : vs.length = 5 := by
  obtain ⟨_, _, _, _, _, _, _, _, _, _, _, _, _, _, _, _, rfl, _⟩ := h
  rfl
theorem ok__law_step_right {f : Addr} {fd : FuncData} {f__law_draw : Addr} {fd__law_draw : FuncData} {f__law_seen : Addr} {fd__law_seen : FuncData} {f__law_pick : Addr} {fd__law_pick : FuncData} {f__law_same : Addr} {fd__law_same : FuncData} {f__law_taken : Addr} {fd__law_taken : FuncData} {f__law_some : Addr} {fd__law_some : FuncData} {f__law_mixed : Addr} {fd__law_mixed : FuncData} {f__law_free_told : Addr} {fd__law_free_told : FuncData} {f_LockTable_blockers : Addr} {fd_LockTable_blockers : FuncData} {f_LockTable_take : Addr} {fd_LockTable_take : FuncData} {f_LockTable_free : Addr} {fd_LockTable_free : FuncData} (F : Fun K "_law_step_right" "_law_step_right" s__law_step_right f fd) (T : Gs K mg a_LockTable) (c__law_draw : Cal P w K mg base CX0 1 "_law_draw" f__law_draw fd__law_draw ["_law_state_here", "_law_many"] (sp__law_draw K)) (c__law_seen : Cal P w K mg base CX0 3 "_law_seen" f__law_seen fd__law_seen ["_law_desk", "_law_places", "_law_writers"] (sp__law_seen K)) (c__law_pick : Cal P w K mg base CX0 2 "_law_pick" f__law_pick fd__law_pick ["_law_state_here", "_law_row"] (sp__law_pick K)) (c__law_same : Cal P w K mg base CX0 26 "_law_same" f__law_same fd__law_same ["_law_actual", "_law_due"] (sp__law_same K)) (c__law_taken : Cal P w K mg base CX0 1 "_law_taken" f__law_taken fd__law_taken ["_law_row", "_law_writer", "_law_mode"] (sp__law_taken K)) (c__law_some : Cal P w K mg base CX0 2 "_law_some" f__law_some fd__law_some ["_law_state_here", "_law_row", "_law_share"] (sp__law_some K)) (c__law_mixed : Cal P w K mg base CX0 2 "_law_mixed" f__law_mixed fd__law_mixed ["_law_state_here", "_law_row"] (sp__law_mixed K)) (c__law_free_told : Cal P w K mg base CX0 3 "_law_free_told" f__law_free_told fd__law_free_told ["_law_desk", "_law_writer", "_law_but"] (sp__law_free_told K)) (c_LockTable_blockers : CalM P w K mg base CX0 2 a_LockTable "blockers" f_LockTable_blockers fd_LockTable_blockers ["self", "place", "writer", "mode"] (sp_LockTable_blockers K)) (c_LockTable_take : CalM P w K mg base CX0 3 a_LockTable "take" f_LockTable_take fd_LockTable_take ["self", "place", "writer", "mode"] (sp_LockTable_take K)) (c_LockTable_free : CalM P w K mg base CX0 1 a_LockTable "free" f_LockTable_free fd_LockTable_free ["self", "place", "writer"] (sp_LockTable_free K)) : FnOk P w K mg base CX0 27 f fd ["_law_state_here", "_law_desk", "_law_before", "_law_places", "_law_writers"] (sp__law_step_right K) := by
  refine F.ok sc__law_step_right (fun vs H Q E h => len__law_step_right h) (fun cdv A outer s H vs Q E hr h => ?_)
  obtain ⟨st, scr, a, bf, R, S, pl, wl, rs, ss, ps, ks, ws, L, F, n, rfl, dA, hL, ex, md, li, few, n6, hbf, hR, hS, rl, sl, hrs, hss, hpl, hps, hwl, plst, wst, w4, k4, kn, wn, k10, qq⟩ := h
  refine ⟨_, (pss_cons (ps_set (i := 5) sc__law_step_right.nd rfl (.inl rfl) (pe_callTy (listK K) (by rfl) T.z_list (by decide +kernel) (pa_cons (e_x K (v_ 2) pe_int) pa_nil))) (pss_cons (ps_set (i := 6) sc__law_step_right.nd rfl (.inl rfl) (pe_callTy (listK K) (by rfl) T.z_list (by decide +kernel) (pa_cons (e_x K (v_ 2) pe_int) pa_nil))) (pss_cons (ps_set (i := 7) sc__law_step_right.nd rfl (.inl rfl) (pe_call c__law_draw.G (hr.mono (by first | decide | omega)) rfl c__law_draw.m c__law_draw.kp c__law_draw.b .nil pass0 (pa_cons (v_ 0) (pa_cons pe_int pa_nil)))) (pss_cons (ps_set (i := 8) sc__law_step_right.nd rfl (.inl rfl) (pe_call c__law_draw.G (hr.mono (by first | decide | omega)) rfl c__law_draw.m c__law_draw.kp c__law_draw.b .nil pass0 (pa_cons (v_ 0) (pa_cons (pe_callB (lenK K) (by rfl) T.z_len PySem.boot_len (pa_cons (v_ 3) pa_nil)) pa_nil)))) (pss_cons (ps_set (i := 9) sc__law_step_right.nd rfl (.inl rfl) (pe_call c__law_draw.G (hr.mono (by first | decide | omega)) rfl c__law_draw.m c__law_draw.kp c__law_draw.b .nil pass0 (pa_cons (v_ 0) (pa_cons (pe_callB (lenK K) (by rfl) T.z_len PySem.boot_len (pa_cons (v_ 4) pa_nil)) pa_nil)))) (pss_cons (ps_set (i := 10) sc__law_step_right.nd rfl (.inr rfl) (e_x K (v_ 3) (v_ 8))) (pss_cons (ps_set (i := 11) sc__law_step_right.nd rfl (.inr rfl) (e_x K (v_ 4) (v_ 9))) (pss_cons (ps_set (i := 12) sc__law_step_right.nd rfl (.inr rfl) (pe_callTy (listK K) (by rfl) T.z_list (by decide +kernel) (pa_cons (e_x K (v_ 6) (v_ 9)) pa_nil))) (Evl.pss_cut (ps_if (pt_c op_ltM (v_ 7) pe_int) (pss_cons (ps_set (i := 14) sc__law_step_right.nd rfl (.inl rfl) (pe_call c__law_pick.G (hr.mono (by first | decide | omega)) rfl c__law_pick.m c__law_pick.kp c__law_pick.b .nil pass0 (pa_cons (v_ 0) (pa_cons (pe_lst (pa_cons pe_str (pa_cons pe_str (pa_cons pe_str pa_nil)))) pa_nil)))) (pss_cons (ps_set (i := 15) sc__law_step_right.nd rfl (.inl rfl) (pe_meth (v_ 1) c_LockTable_blockers.cl c_LockTable_blockers.me c_LockTable_blockers.G (hr.mono (by first | decide | omega)) c_LockTable_blockers.b .nil pass0 (pa_cons (v_ 10) (pa_cons (v_ 11) (pa_cons (v_ 14) pa_nil))))) (pss_cons (ps_set (i := 16) sc__law_step_right.nd rfl (.inl rfl) (pe_meth (v_ 1) c_LockTable_take.cl c_LockTable_take.me c_LockTable_take.G (hr.mono (by first | decide | omega)) c_LockTable_take.b .nil pass0 (pa_cons (v_ 10) (pa_cons (v_ 11) (pa_cons (v_ 14) pa_nil))))) (pss_cons (ps_if (pt_not (pt_t K (pe_call c__law_same.G (hr.mono (by first | decide | omega)) rfl c__law_same.m c__law_same.kp c__law_same.b .nil pass0 (pa_cons (v_ 16) (pa_cons (pe_c (eqK K hr.units) (pe_callB (lenK K) (by rfl) T.z_len PySem.boot_len (pa_cons (v_ 15) pa_nil)) pe_int) pa_nil))))) (pss_one (ps_ret pe_bl)) pss_nil) (pss_one (ps_if (pt_t K (v_ 16)) (pss_cons (ps_asg (pe_call c__law_taken.G (hr.mono (by first | decide | omega)) rfl c__law_taken.m c__law_taken.kp c__law_taken.b .nil pass0 (pa_cons (e_x K (v_ 5) (v_ 8)) (pa_cons (v_ 11) (pa_cons (v_ 14) pa_nil)))) (pg_sub (v_ 5) (v_ 8) set_list)) (pss_one (ps_asg (pe_op (addK K) (v_ 12) (pe_lc (own := [("_law_one", 20)]) (g := gName 20) (by rfl) sc__law_step_right.nd (pi_list (pe_lst (pa_cons (v_ 10) pa_nil))) (blkOk_by (N := ["_law_state_here", "_law_desk", "_law_before", "_law_places", "_law_writers", "_law_rows", "_law_helds", "_law_kind", "_law_at", "_law_w", "_law_place", "_law_writer", "_law_there", "_law_after", "_law_mode", "_law_stops", "_law_told", "_law_but", "_law_k", "_law_pair", "_law_one"]) (sc := defScope s__law_step_right) (by decide +kernel)) (fun _ _ _ _ _ => pg_name (i := 20) sc__law_step_right.nd rfl (Or.inl rfl)) (fun _ _ _ _ _ => pts_one (pt_c (notInKy K hr.units) (v_ 20) (v_ 12))) (fun _ _ _ _ _ => (v_ 20)))) (pg_sub (v_ 6) (v_ 9) set_list)))) pss_nil)))))) (pss_one (ps_if (pt_c (eqK K hr.units) (v_ 7) pe_int) (pss_cons (ps_if (pt_not (pt_t K (pe_call c__law_same.G (hr.mono (by first | decide | omega)) rfl c__law_same.m c__law_same.kp c__law_same.b .nil pass0 (pa_cons (pe_meth (v_ 1) c_LockTable_free.cl c_LockTable_free.me c_LockTable_free.G (hr.mono (by first | decide | omega)) c_LockTable_free.b .nil pass0 (pa_cons (v_ 10) (pa_cons (v_ 11) pa_nil))) (pa_cons (pe_c (inKy K hr.units) (v_ 10) (v_ 12)) pa_nil))))) (pss_one (ps_ret pe_bl)) pss_nil) (pss_cons (ps_asg (pe_lc (own := [("_law_pair", 19)]) (g := gName 19) (by rfl) sc__law_step_right.nd (pi_list (e_x K (v_ 5) (v_ 8))) (blkOk_by (N := ["_law_state_here", "_law_desk", "_law_before", "_law_places", "_law_writers", "_law_rows", "_law_helds", "_law_kind", "_law_at", "_law_w", "_law_place", "_law_writer", "_law_there", "_law_after", "_law_mode", "_law_stops", "_law_told", "_law_but", "_law_k", "_law_pair", "_law_one"]) (sc := defScope s__law_step_right) (by decide +kernel)) (fun _ _ _ _ _ => pg_name (i := 19) sc__law_step_right.nd rfl (Or.inl rfl)) (fun _ _ _ _ _ => pts_one (pt_c (neK K hr.units) (e_x K (v_ 19) pe_int) (v_ 11))) (fun _ _ _ _ _ => (v_ 19))) (pg_sub (v_ 5) (v_ 8) set_list)) (pss_one (ps_asg (pe_lc (own := [("_law_one", 20)]) (g := gName 20) (by rfl) sc__law_step_right.nd (pi_list (v_ 12)) (blkOk_by (N := ["_law_state_here", "_law_desk", "_law_before", "_law_places", "_law_writers", "_law_rows", "_law_helds", "_law_kind", "_law_at", "_law_w", "_law_place", "_law_writer", "_law_there", "_law_after", "_law_mode", "_law_stops", "_law_told", "_law_but", "_law_k", "_law_pair", "_law_one"]) (sc := defScope s__law_step_right) (by decide +kernel)) (fun _ _ _ _ _ => pg_name (i := 20) sc__law_step_right.nd rfl (Or.inl rfl)) (fun _ _ _ _ _ => pts_one (pt_c (neKy K hr.units) (v_ 20) (v_ 10))) (fun _ _ _ _ _ => (v_ 20))) (pg_sub (v_ 6) (v_ 9) set_list))))) (pss_cons (ps_set (i := 17) sc__law_step_right.nd rfl (.inr rfl) (pe_slice (slK K) (pe_call c__law_some.G (hr.mono (by first | decide | omega)) rfl c__law_some.m c__law_some.kp c__law_some.b .nil pass0 (pa_cons (v_ 0) (pa_cons (pe_call c__law_mixed.G (hr.mono (by first | decide | omega)) rfl c__law_mixed.m c__law_mixed.kp c__law_mixed.b .nil pass0 (pa_cons (v_ 0) (pa_cons (v_ 3) pa_nil))) (pa_cons pe_int pa_nil)))) po_none (po_some pe_int))) (pss_cons (ps_asg (pe_lc (own := [("_law_one", 20)]) (g := gName 20) (by rfl) sc__law_step_right.nd (pi_list (v_ 12)) (blkOk_by (N := ["_law_state_here", "_law_desk", "_law_before", "_law_places", "_law_writers", "_law_rows", "_law_helds", "_law_kind", "_law_at", "_law_w", "_law_place", "_law_writer", "_law_there", "_law_after", "_law_mode", "_law_stops", "_law_told", "_law_but", "_law_k", "_law_pair", "_law_one"]) (sc := defScope s__law_step_right) (by decide +kernel)) (fun _ _ _ _ _ => pg_name (i := 20) sc__law_step_right.nd rfl (Or.inl rfl)) (fun _ _ _ _ _ => pts_one (pt_c (inKy K hr.units) (v_ 20) (v_ 17))) (fun _ _ _ _ _ => (v_ 20))) (pg_sub (v_ 6) (v_ 9) set_list)) (pss_cons (ps_if (pt_not (pt_t K (pe_call c__law_same.G (hr.mono (by first | decide | omega)) rfl c__law_same.m c__law_same.kp c__law_same.b .nil pass0 (pa_cons (pe_call c__law_free_told.G (hr.mono (by first | decide | omega)) rfl c__law_free_told.m c__law_free_told.kp c__law_free_told.b .nil pass0 (pa_cons (v_ 1) (pa_cons (v_ 11) (pa_cons (v_ 17) pa_nil)))) (pa_cons (pe_op op_subM (pe_callB (lenK K) (by rfl) T.z_len PySem.boot_len (pa_cons (v_ 12) pa_nil)) (pe_callB (lenK K) (by rfl) T.z_len PySem.boot_len (pa_cons (e_x K (v_ 6) (v_ 9)) pa_nil))) pa_nil))))) (pss_one (ps_ret pe_bl)) pss_nil) (pss_one (ps_for PassesOwn.never rfl (pi_range1 rfl T.z_range (pa_cons (pe_callB (lenK K) (by rfl) T.z_len PySem.boot_len (pa_cons (v_ 3) pa_nil)) pa_nil)) (pg_name (i := 18) sc__law_step_right.nd rfl (.inl rfl)) (pss_one (ps_if (pt_c (notInKy K hr.units) (e_x K (v_ 3) (v_ 18)) (v_ 17)) (pss_one (ps_asg (pe_lc (own := [("_law_pair", 19)]) (g := gName 19) (by rfl) sc__law_step_right.nd (pi_list (e_x K (v_ 5) (v_ 18))) (blkOk_by (N := ["_law_state_here", "_law_desk", "_law_before", "_law_places", "_law_writers", "_law_rows", "_law_helds", "_law_kind", "_law_at", "_law_w", "_law_place", "_law_writer", "_law_there", "_law_after", "_law_mode", "_law_stops", "_law_told", "_law_but", "_law_k", "_law_pair", "_law_one"]) (sc := defScope s__law_step_right) (by decide +kernel)) (fun _ _ _ _ _ => pg_name (i := 19) sc__law_step_right.nd rfl (Or.inl rfl)) (fun _ _ _ _ _ => pts_one (pt_c (neK K hr.units) (e_x K (v_ 19) pe_int) (v_ 11))) (fun _ _ _ _ _ => (v_ 19))) (pg_sub (v_ 5) (v_ 18) set_list))) pss_nil)))))))))) (pss_cons (ps_set (i := 13) sc__law_step_right.nd rfl (.inl rfl) (pe_call c__law_seen.G (hr.mono (by first | decide | omega)) rfl c__law_seen.m c__law_seen.kp c__law_seen.b .nil pass0 (pa_cons (v_ 1) (pa_cons (v_ 3) (pa_cons (v_ 4) pa_nil))))) (pss_one (ps_ret (pe_andM (pe_c op_isNotM (v_ 13) pe_non) (pe_andM (pe_call c__law_same.G (hr.mono (by first | decide | omega)) rfl c__law_same.m c__law_same.kp c__law_same.b .nil pass0 (pa_cons (e_x K (v_ 13) pe_int) (pa_cons (v_ 5) pa_nil))) (pe_one (pe_call c__law_same.G (hr.mono (by first | decide | omega)) rfl c__law_same.m c__law_same.kp c__law_same.b .nil pass0 (pa_cons (e_x K (v_ 13) pe_int) (pa_cons (v_ 6) pa_nil)))))))))))))))))), ?_⟩
  have psl := hps.len
  have ok : LOk L := by
    obtain ⟨_, _, _, _, _, ok, _⟩ := hL
    exact ok
  obtain ⟨dx, fs, f1, f2, f3, ha⟩ : ∃ dx fs, fs.lookup ("blockers" : Str) = none ∧ fs.lookup ("take" : Str) = none ∧ fs.lookup ("free" : Str) = none ∧ H a = some (.ins a_LockTable dx fs) := by
    obtain ⟨m, p, M, P, g, _⟩ := id hL
    obtain ⟨C, dx, h1, h2⟩ := g.ins
    cases h1.symm.trans T.n_LockTable
    exact ⟨dx, _, rfl, rfl, rfl, h2⟩
  have hal : ∀ {H' : Hp} {L' : List Lck} {F' : Addr → Prop} {m : Nat}, LkAt K H' a L' F' m → ∃ dx fs, fs.lookup ("blockers" : Str) = none ∧ fs.lookup ("take" : Str) = none ∧ fs.lookup ("free" : Str) = none ∧ H' a = some (.ins a_LockTable dx fs) := fun {H' L' F' m} hL => by
    obtain ⟨m, p, M, P, g, _⟩ := id hL
    obtain ⟨C, dx, h1, h2⟩ := g.ins
    cases h1.symm.trans T.n_LockTable
    exact ⟨dx, _, rfl, rfl, rfl, h2⟩
  have i0 : atI [V.ref R, .ref S] (0 : Int) = some (.ref R) := rfl
  have i1 : atI [V.ref R, .ref S] (1 : Int) = some (.ref S) := rfl
  refine ⟨_, .inr (SqT.of hbf), _, i0, R, rs, rfl, .inl (SqL.of hR), fun R2 nR2 => ?_⟩
  have sA := same_new (o := .lst rs) nR2
  have hR2 := upd_same (H := H) (a := R2) (o := .lst rs)
  generalize upd H R2 (.lst rs) = HA at sA hR2 ⊢
  refine ⟨_, .inr (SqT.of (sA _ _ hbf)), _, i1, S, ss, rfl, .inl (SqL.of (sA _ _ hS)), fun S2 nS2 => ?_⟩
  have sB := same_new (o := .lst ss) nS2
  have hS2 := upd_same (H := HA) (a := S2) (o := .lst ss)
  have R2S2 : R2 ≠ S2 := ne_of_none hR2 nS2
  generalize upd HA S2 (.lst ss) = HB at sB hS2 ⊢
  have hR2 := sB _ _ hR2
  have nS2 := Same.free sA nS2
  have sB := sA.trans sB
  clear sA
  have R2st : R2 ≠ st := dA.ne_new nR2
  have S2st : S2 ≠ st := dA.ne_new nS2
  have S2sc : S2 ≠ scr := dA.ne_scr nS2
  have R2sc : R2 ≠ scr := dA.ne_scr nR2
  have nrs : ∀ (j : Nat) (u : V), rs[j]? = some u → u ≠ .ref R2 ∧ u ≠ .ref S2 := fun j u e => ⟨(hrs j u e).ne nR2, (hrs j u e).ne nS2⟩
  have nss : ∀ (j : Nat) (u : V), ss[j]? = some u → u ≠ .ref R2 ∧ u ≠ .ref S2 := fun j u e => ⟨(hss j u e).ne nR2, (hss j u e).ne nS2⟩
  have dB := dA.new sB
  refine ⟨st, scr, 6, rfl, dB, by decide, many_small (by decide) (by decide), fun kd l kd0 kd1 dC => ?_⟩
  have bC : Bt st HB (upd HB st (.lst l)) := Bt.st
  generalize upd HB st (.lst l) = HC at dC bC ⊢
  refine .inl ⟨_, .inl (SqL.of (bC _ _ plst (sB _ _ hpl))), ?_⟩
  refine ⟨st, scr, _, rfl, dC, by omega, many_small (by omega) (by omega), fun at0 l at1 at2 dD => ?_⟩
  have bD := bC.trans (Bt.st (st := st) (o := .lst l))
  generalize upd HC st (.lst l) = HD at dD bD ⊢
  refine .inl ⟨_, .inl (SqL.of (bD _ _ wst (sB _ _ hwl))), ?_⟩
  refine ⟨st, scr, _, rfl, dD, by rw [List.length_map]; omega, many_small (by rw [List.length_map]; omega) (by rw [List.length_map]; omega), fun w0 l w1 w2 dE => ?_⟩
  rw [List.length_map] at w2
  have bE := bD.trans (Bt.st (st := st) (o := .lst l))
  generalize upd HD st (.lst l) = HE at dE bE ⊢
  clear bC bD dC dD dB
  obtain ⟨i, rfl⟩ : ∃ j : Nat, at0 = (j : Int) := ⟨at0.toNat, by omega⟩
  obtain ⟨j, rfl⟩ : ∃ j : Nat, w0 = (j : Int) := ⟨w0.toNat, by omega⟩
  obtain ⟨q, b, ep, eq, hb⟩ : ∃ q b, ps[i]? = some (.ref b) ∧ ks[i]? = some q ∧ H b = some (.tup (q.map kV)) := by
    have hi : i < ps.length := by omega
    obtain ⟨q, eq, b, e, hb⟩ := hps.at (List.getElem?_eq_getElem hi)
    exact ⟨q, b, by rw [List.getElem?_eq_getElem hi, e], eq, hb⟩
  obtain ⟨w, ew⟩ : ∃ w, ws[j]? = some w := ⟨_, List.getElem?_eq_getElem (by omega)⟩
  have tE : TupS H HE := fun b xs h => bE _ _ (fun e => by
    obtain ⟨l, hl⟩ := dA.lst
    rw [e, hl] at h
    cases h) (sB _ _ h)
  have hplE := bE _ _ plst (sB _ _ hpl)
  have hwlE := bE _ _ wst (sB _ _ hwl)
  have hR2E := bE _ _ R2st hR2
  have hS2E := bE _ _ S2st hS2
  refine ⟨_, .inl (SqL.of hplE), _, atI_nat ep, ?_⟩
  have aw : atI (ws.map V.int) (j : Int) = some (.int w) := atI_nat (by rw [List.getElem?_map, ew]; rfl)
  refine ⟨_, .inl (SqL.of hwlE), _, aw, ?_⟩
  have kE : KpX st F H HE := (KpX.same sB).trans (.bt bE)
  have hLE : LkAt K HE a L F n := LkAt.bt (dA.new sB) (hL.same sB) bE
  obtain ⟨hv, ehv⟩ : ∃ hv, ss[j]? = some hv := ⟨_, List.getElem?_eq_getElem (by omega)⟩
  have hheld := (hss j hv ehv).kp dA hL kE
  rw [gF_at ew] at hheld
  obtain ⟨h0, zs, rfl, hh0, hzs⟩ := hheld
  refine ⟨_, .inl (SqL.of hS2E), _, atI_nat ehv, h0, zs, rfl, .inl (SqL.of hh0), fun T0 nT => ?_⟩
  have sF := same_new (o := .lst zs) nT
  have hT := upd_same (H := HE) (a := T0) (o := .lst zs)
  generalize upd HE T0 (.lst zs) = HF at sF hT ⊢
  have dF := dE.new sF
  have hLF := hLE.same sF
  have kF : KpX st F H HF := kE.trans (.same sF)
  have T0st : T0 ≠ st := dE.ne_new nT
  have hzs := hzs.imp fun v k h => h.same sF
  have hplF := sF _ _ hplE
  have hwlF := sF _ _ hwlE
  have hR2F := sF _ _ hR2E
  have hS2F := sF _ _ hS2E
  have T0R2 : T0 ≠ R2 := (ne_of_none hR2E nT).symm
  have T0S2 : T0 ≠ S2 := (ne_of_none hS2E nT).symm
  have hrsF : RowsI HF rs (hF L ks) := fun j u e => (hrs j u e).kp dA hL kF
  have hssF : HeldsI HF ss (gF L ws) := fun j u e => (hss j u e).kp dA hL kF
  have hpsF : All2 (KyT HF) ps ks := hps.imp fun v k h => h.tup fun b xs h => sF _ _ (tE _ _ h)
  have hbF : HF b = some (.tup (q.map kV)) := sF _ _ (tE _ _ hb)
  clear sF hplE hwlE hR2E hS2E hh0 dE bE hLE kE tE nT sB hR2 hS2
  refine g_is [some (.ref st), some (.ref a), some (.ref bf), some (.ref pl), some (.ref wl), some (.ref R2), some (.ref S2), some (.int kd), some (.int i), some (.int j), some (.ref b), some (.int w), some (.ref T0), none, none, none, none, none, none, none, none] rfl ?_
  refine ⟨fun σ' H' => ∃ (y14 y15 y16 y17 y18 y19 y20 : Option V) (L' : List Lck) (F' : Addr → Prop) (rs' ss' : List V), σ' = [some (.ref st), some (.ref a), some (.ref bf), some (.ref pl), some (.ref wl), some (.ref R2), some (.ref S2), some (.int kd), some (.int i), some (.int j), some (.ref b), some (.int w), some (.ref T0), none, y14, y15, y16, y17, y18, y19, y20] ∧
    KpX st F H H' ∧ DrAt H' st scr ∧ LkAt K H' a L' F' (n + 1) ∧ LEx L' ∧ MdOk L' ∧ LIn L' ks ws ∧ L'.length ≤ n + 1 ∧ H' R2 = some (.lst rs') ∧ rs'.length = ks.length ∧ RowsI H' rs' (hF L' ks) ∧ H' S2 = some (.lst ss') ∧ ss'.length = ws.length ∧ HeldsI H' ss' (gF L' ws), ?_, ?_⟩
  · refine ite2 (fun c => ?_) (fun c => ?_)
    · -- a take
      refine ⟨(by show 3 ≤ sizeLine; decide), fun m nm => ?_⟩
      have mst : m ≠ st := dF.ne_new nm
      have s2 := same_new (o := .lst [.str "share", .str "hold", .str "share"]) nm
      have dG := dF.new s2
      have hm := upd_same (H := HF) (a := m) (o := .lst [.str "share", .str "hold", .str "share"])
      generalize upd HF m (.lst [.str "share", .str "hold", .str "share"]) = HG at dG hm s2 ⊢
      refine ⟨st, scr, _, rfl, dG, .inr ⟨m, _, rfl, hm, mst, by decide, by decide, fun dv l hdv dI => ?_⟩⟩
      obtain ⟨md1, rfl, hmd⟩ : ∃ md : Str, dv = .str md ∧ (md = ("share" : Str) ∨ md = ("hold" : Str)) := by
        simp only [List.mem_cons, List.not_mem_nil, or_false] at hdv
        rcases hdv with rfl | rfl | rfl
        · exact ⟨_, rfl, .inl rfl⟩
        · exact ⟨_, rfl, .inr rfl⟩
        · exact ⟨_, rfl, .inl rfl⟩
      have bI := (Bt.same (st := st) s2).trans (Bt.st (st := st) (o := .lst l))
      have kI : KpX st F HF (upd HG st (.lst l)) := .bt bI
      have hLI : LkAt K (upd HG st (.lst l)) a L F n := LkAt.bt dF hLF bI
      generalize upd HG st (.lst l) = HI at dI kI hLI ⊢
      clear bI s2 hm hdv mst dG nm m
      have li0 := (KpX.tups dF hLF kI)
      obtain ⟨dx, fs, f1, f2, f3, ha⟩ := hal hLI
      refine ⟨a, dx, fs, rfl, ha, f1, a, b, q, w, md1, L, F, n, rfl, li0 _ _ hbF, hLI, by omega, fun HJ p sJ np hp => ?_⟩
      have kJ := kI.trans (.same sJ)
      have hbJ := sJ _ _ (li0 _ _ hbF)
      refine ⟨a, dx, fs, rfl, sJ _ _ ha, f2, a, b, q, w, md1, L, F, n, rfl, hbJ, hLI.same sJ, by omega, by omega, fun ne HK sK => ?_, fun e HK F1 keK hLK nF => ?_⟩
      · refine .inl ⟨_, .inl (SqL.of (sK _ _ hp)), ?_⟩
        have ne2 : ¬ ((((blockersOf L q w md1).map V.int).length : Int) = 0) := fun e => ne (by
          rw [List.length_map] at e
          exact List.length_eq_zero_iff.mp (by omega))
        refine ⟨_, _, rfl, (by
          show SameV K HK 24 (.bl false) (.bl (decide ((((blockersOf L q w md1).map V.int).length : Int) = 0)))
          rw [decide_eq_false ne2]
          exact same_bl _), ?_⟩
        have kK := kJ.trans (.same sK)
        exact ⟨_, _, _, _, _, _, _, L, F, rs, ss, rfl, kF.trans kK, (dI.new sJ).new sK, ((hLI.same sJ).same sK).more (by omega), ex, md, li, by omega, kK.lst hLF R2st hR2F, rl, (fun j u e => (hrsF j u e).kp dF hLF kK), kK.lst hLF S2st hS2F, sl, fun j u e => (hssF j u e).kp dF hLF kK⟩
      have kK := kJ.trans (.keep keK)
      have hLJ := hLI.same sJ
      have dK := dr_keep (dI.new sJ) hLJ keK
      refine .inl ⟨_, .inl (SqL.of (hLJ.stay keK hp (by intro _ z; cases z) (by intro _ z; cases z))), ?_⟩
      refine ⟨_, _, rfl, (by
        show SameV K HK 24 (.bl true) (.bl (decide ((((blockersOf L q w md1).map V.int).length : Int) = 0)))
        rw [e]
        exact same_bl _), ?_⟩
      obtain ⟨rv, er⟩ : ∃ rv, rs[i]? = some rv := ⟨_, List.getElem?_eq_getElem (by omega)⟩
      have hrow := (hrsF i rv er).kp dF hLF kK
      rw [hF_at eq] at hrow
      obtain ⟨r, xs, rfl, hr0, hxs⟩ := hrow
      have hqL := holders_len (L := L) (q := q)
      refine ⟨_, .inl (SqL.of (kK.lst hLF R2st hR2F)), _, atI_nat er, r, xs, holdersOf L q, w, md1, rfl, hr0, hxs, by omega, fun HL p2 ys sL np2 hp2 hys => ?_⟩
      have kL := kK.trans (.same sL)
      have hR2L := kL.lst hLF R2st hR2F
      have hS2L := kL.lst hLF S2st hS2F
      refine ⟨R2, rs, i, i, rfl, rfl, hR2L, ixN_of (by omega), ?_⟩
      have p2R : V.ref p2 ≠ .ref R2 := fun z => by
        have := V.ref.inj z
        rw [this, kK.lst hLF R2st hR2F] at np2
        cases np2
      have p2S : V.ref p2 ≠ .ref S2 := fun z => by
        have := V.ref.inj z
        rw [this, kK.lst hLF S2st hS2F] at np2
        cases np2
      have hrL : RowsI HL rs (hF L ks) := fun j u e => (hrsF j u e).kp dF hLF kL
      have hsL : HeldsI HL ss (gF L ws) := fun j u e => (hssF j u e).kp dF hLF kL
      have hrM := set_rows hrL (fun j u e => (nrs j u e).1) hR2L ⟨p2, ys, rfl, hp2, hys⟩ p2R (i := i)
      have hsM := hsL.put (ys := rs.set i (.ref p2)) hR2L fun j u e => (nss j u e).1
      have dM := (dK.new sL).at (o := .lst (rs.set i (.ref p2))) R2st R2sc
      have hLM := (hLK.same sL).upd (ys := rs.set i (.ref p2)) hR2L
      have kM := (kF.trans kL).new (o := .lst (rs.set i (.ref p2))) nR2
      have hR2M := upd_same (H := HL) (a := R2) (o := .lst (rs.set i (.ref p2)))
      have hS2M : upd HL R2 (.lst (rs.set i (.ref p2))) S2 = some (.lst ss) := by rw [upd_ne R2S2.symm]; exact hS2L
      have tM : TupS HF (upd HL R2 (.lst (rs.set i (.ref p2)))) := (kL.tups dF hLF).trans (TupS.upd fun xs e => by rw [hR2L] at e; cases e)
      have hTM : upd HL R2 (.lst (rs.set i (.ref p2))) T0 = some (.lst zs) := by rw [upd_ne T0R2]; exact kL.lst hLF T0st hT
      generalize upd HL R2 (.lst (rs.set i (.ref p2))) = HM at hrM hsM dM hLM kM hR2M hS2M tM hTM ⊢
      clear hrL hsL hR2L hS2L kL sL dK hLK kK kJ keK sJ hp np ha hLJ hLI kI hbJ dI hys hp2 np2 hxs hr0 p2R
      -- the places held
      refine ⟨(by show 1 ≤ sizeLine; decide), fun m nm => ⟨m, rfl, ⟨_, SqL.of upd_same⟩, fun D nD => ?_⟩⟩
      have sN := same_new (o := .lst [V.ref b]) nm
      have hm := upd_same (H := HM) (a := m) (o := .lst [V.ref b])
      generalize upd HM m (.lst [V.ref b]) = HN at sN hm nD ⊢
      have hzN : All2 (KyT HN) zs (heldW L w) := hzs.imp fun v k h => h.tup (tM.trans (TupS.same sN))
      refine lc_it (walk_list (xs := [V.ref b])) (fun i H' => Same HN H' ∧ ∃ us, H' D = some (.lst us) ∧ All2 (KyT H') us (([q].take i).filter fun r => !decide (r ∈ heldW L w))) ⟨same_new nD, [], upd_same, .nil⟩ (fun _ _ _ h => SqL.of (h.1 _ _ hm)) ?_ ?_
      · rintro i v H6 H7 hi ⟨s6, us, hD, hus⟩ ⟨rfl, hv⟩
        have hi0 : i = 0 := by
          have : i < 1 := hi
          omega
        subst hi0
        cases hv
        have hb7 := s6 _ _ (sN _ _ (tM _ _ hbF))
        refine ⟨rfl, q, T0, zs, heldW L w, ⟨b, rfl, SqT.of hb7⟩, rfl, .inr (SqL.of (s6 _ _ (sN _ _ hTM))), kys_in (hzN.imp fun v k h => h.same s6), ?_⟩
        have ul := hus.len
        have ul : us.length = 0 := ul
        refine ite2 (fun c => ?_) (fun c => ?_)
        · have c : (!decide (q ∈ heldW L w)) = true := c
          refine ⟨us, hD, line_lt (by omega), keep_new nD s6, _, upd_same, ?_⟩
          have tp : TupS H7 (upd H7 D (.lst (us ++ [.ref b]))) := TupS.upd fun xs e => by rw [hD] at e; cases e
          rw [take_snoc (xs := [q]) rfl, List.filter_append, List.filter_cons_of_pos (by exact c)]
          exact (hus.imp fun v p h => h.tup tp).snoc (KyT.tup ⟨b, rfl, hb7⟩ tp)
        · have c : ¬ (!decide (q ∈ heldW L w)) = true := c
          refine ⟨s6, us, hD, ?_⟩
          rw [take_snoc (xs := [q]) rfl, List.filter_append, List.filter_cons_of_neg (by exact c), List.filter_nil, List.append_nil]
          exact hus
      rintro H6 ⟨s6, us, hD, hus⟩
      have hus : All2 (KyT H6) us ([q].filter fun r => !decide (r ∈ heldW L w)) := hus
      have ul := hus.len
      have fl := List.length_filter_le (fun r => !decide (r ∈ heldW L w)) [q]
      rw [List.length_singleton] at fl
      have zl := hzs.len
      have hl := held_len (L := L) (w := w)
      have s16 := sN.trans s6
      refine .inl ⟨_, _, s16 _ _ hTM, hD, line_of (by omega), fun c nc => ?_⟩
      have sc := same_new (o := .lst (zs ++ us)) nc
      have hc := upd_same (H := H6) (a := c) (o := .lst (zs ++ us))
      have s17 := s16.trans sc
      have cS : V.ref c ≠ .ref S2 := fun z => by
        have := V.ref.inj z
        rw [this, s16 _ _ hS2M] at nc
        cases nc
      have hcH : HeldAt (upd H6 c (.lst (zs ++ us))) (.ref c) (heldW L w ++ ([q].filter fun r => !decide (r ∈ heldW L w))) := ⟨c, _, rfl, hc, ((hzN.imp fun v k h => (h.same s6).same sc)).app (hus.imp fun v k h => h.same sc)⟩
      generalize upd H6 c (.lst (zs ++ us)) = HY at sc hc s17 hcH ⊢
      refine ⟨S2, ss, j, j, rfl, rfl, s17 _ _ hS2M, ixN_of (by omega), ?_⟩
      have hS2Y := s17 _ _ hS2M
      have kZ := (kM.trans (.same s17)).new (o := .lst (ss.set j (.ref c))) nS2
      refine ⟨_, _, _, _, _, _, _, takeL L q w md1, F1, rs.set i (.ref p2), ss.set j (.ref c), rfl, kZ, (dM.new s17).at S2st S2sc, (hLM.same s17).upd hS2Y, ex.take ok e, take_md md hmd, take_in li (List.mem_of_getElem? eq) (List.mem_of_getElem? ew), Nat.le_trans take_len (by omega), ?_, by rw [List.length_set]; exact rl, ?_, upd_same, by rw [List.length_set]; exact sl, ?_⟩
      · rw [upd_ne R2S2]
        exact s17 _ _ hR2M
      · refine ((hrM.same s17).put hS2Y fun j u e => ?_).congr fun j hj => ?_
        · rcases set_at e with ⟨_, rfl⟩ | ⟨_, e⟩
          · exact p2S
          · exact (nrs j u e).2
        · rw [List.length_set] at hj
          exact hF_take ok kn eq (by omega)
      · refine (set_helds (hsM.same s17) (fun j u e => (nss j u e).2) hS2Y hcH cS (i := j)).congr fun j' hj => ?_
        rw [List.length_set] at hj
        exact gF_take wn ew (by omega)
    refine ite2 (fun c => ?_) (fun c => ?_)
    · -- one place freed
      obtain ⟨dx, fs, f1, f2, f3, ha⟩ := hal hLF
      refine ⟨a, dx, fs, rfl, ha, f3, a, b, q, w, L, F, n, rfl, hbF, hLF, fun no HK sK => ?a, fun yes HK keK hLK => ?b⟩
      case' a =>
        have kK : KpX st F HF HK := .same sK
        have hLK : LkAt K HK a (freeL L q w) F n := by rw [free_none no]; exact hLF.same sK
        have dK := dF.new sK
        have sm : SameV K HK 24 (.bl false) (.bl (decide (q ∈ heldW L w))) := by rw [decide_eq_false no]; exact same_bl _
        clear sK no
      case' b =>
        have kK : KpX st F HF HK := .keep keK
        have dK := dr_keep dF hLF keK
        have sm : SameV K HK 24 (.bl true) (.bl (decide (q ∈ heldW L w))) := by rw [decide_eq_true yes]; exact same_bl _
        clear keK yes
      all_goals
        have tK := kK.tups dF hLF
        have hR2K := kK.lst hLF R2st hR2F
        have hS2K := kK.lst hLF S2st hS2F
        have hTK := kK.lst hLF T0st hT
        have hrK : RowsI HK rs (hF L ks) := fun j u e => (hrsF j u e).kp dF hLF kK
        have hsK : HeldsI HK ss (gF L ws) := fun j u e => (hssF j u e).kp dF hLF kK
        have hzK := hzs.imp fun v k h => h.tup tK
        have hbK := tK _ _ hbF
        have kH := kF.trans kK
        refine ⟨q, T0, zs, heldW L w, ⟨b, rfl, SqT.of hbK⟩, rfl, .inr (SqL.of hTK), kys_in hzK, ?_⟩
        refine ⟨_, _, rfl, sm, ?_⟩
        obtain ⟨rv, er⟩ : ∃ rv, rs[i]? = some rv := ⟨_, List.getElem?_eq_getElem (by omega)⟩
        have hrow := hrK i rv er
        rw [hF_at eq] at hrow
        obtain ⟨r, xs, rfl, hr0, hxs⟩ := hrow
        have hqL := holders_len (L := L) (q := q)
        have xl := hxs.len
        refine ⟨_, .inl (SqL.of hR2K), _, atI_nat er, r, rfl, ⟨_, SqL.of hr0⟩, fun D nD => ?_⟩
        refine lc_it (walk_list (xs := xs)) (fun i H' => Same HK H' ∧ ∃ ys, H' D = some (.lst ys) ∧ PrAs H' ys (((holdersOf L q).take i).filter fun p => !decide (p.1 = w))) ⟨same_new nD, [], upd_same, .nil⟩ (fun _ _ _ h => SqL.of (h.1 _ _ hr0)) ?_ ?_
        · rintro i v H3 H4 hi ⟨s3, ys, hD, hys⟩ ⟨rfl, hv⟩
          obtain ⟨⟨x, z⟩, e, t, rfl, ht0⟩ := hxs.at hv
          have ht := s3 _ _ ht0
          have yl := hys.len
          have fl := List.length_filter_le (fun p : Int × Str => !decide (p.1 = w)) ((holdersOf L q).take i)
          rw [List.length_take] at fl
          have i0 : atI [V.int x, .str z] (0 : Int) = some (.int x) := rfl
          refine ⟨rfl, _, .inr (SqT.of ht), _, i0, ?_⟩
          refine ite2 (fun c => ?_) (fun c => ?_)
          · have c : (!decide (x = w)) = true := c
            refine ⟨ys, hD, line_lt (by omega), keep_new nD s3, _, upd_same, ?_⟩
            have tp : TupS H4 (upd H4 D (.lst (ys ++ [.ref t]))) := TupS.upd fun xs e => by rw [hD] at e; cases e
            rw [take_snoc e, List.filter_append, List.filter_cons_of_pos (by exact c)]
            exact (hys.imp fun v p h => h.tup tp).snoc (PrA.tup ⟨t, rfl, ht⟩ tp)
          · have c : ¬ (!decide (x = w)) = true := c
            refine ⟨s3, ys, hD, ?_⟩
            rw [take_snoc e, List.filter_append, List.filter_cons_of_neg (by exact c), List.filter_nil, List.append_nil]
            exact hys
        rintro HL ⟨sL, ys, hp2, hys⟩
        rw [xl, List.take_length] at hys
        have p2R : V.ref D ≠ .ref R2 := fun z => by
          have := V.ref.inj z
          rw [this, hR2K] at nD
          cases nD
        have p2S : V.ref D ≠ .ref S2 := fun z => by
          have := V.ref.inj z
          rw [this, hS2K] at nD
          cases nD
        have hR2L := sL _ _ hR2K
        refine ⟨R2, rs, i, i, rfl, rfl, hR2L, ixN_of (by omega), ?_⟩
        have hrM := set_rows (hrK.same sL) (fun j u e => (nrs j u e).1) hR2L ⟨D, ys, rfl, hp2, hys⟩ p2R (i := i)
        have hsM := (hsK.same sL).put (ys := rs.set i (.ref D)) hR2L fun j u e => (nss j u e).1
        have dM := (dK.new sL).at (o := .lst (rs.set i (.ref D))) R2st R2sc
        have hLM := (hLK.same sL).upd (ys := rs.set i (.ref D)) hR2L
        have kM := (kH.trans (.same sL)).new (o := .lst (rs.set i (.ref D))) nR2
        have hR2M := upd_same (H := HL) (a := R2) (o := .lst (rs.set i (.ref D)))
        have hS2M : upd HL R2 (.lst (rs.set i (.ref D))) S2 = some (.lst ss) := by rw [upd_ne R2S2.symm]; exact sL _ _ hS2K
        have tM : TupS HK (upd HL R2 (.lst (rs.set i (.ref D)))) := (TupS.same sL).trans (TupS.upd fun xs e => by rw [hR2L] at e; cases e)
        have hTM : upd HL R2 (.lst (rs.set i (.ref D))) T0 = some (.lst zs) := by rw [upd_ne T0R2]; exact sL _ _ hTK
        generalize upd HL R2 (.lst (rs.set i (.ref D))) = HM at hrM hsM dM hLM kM hR2M hS2M tM hTM ⊢
        have hzM := hzK.imp fun v k h => h.tup tM
        have hbM := tM _ _ hbK
        have zl := hzM.len
        have hl := held_len (L := L) (w := w)
        refine ⟨T0, rfl, ⟨_, SqL.of hTM⟩, fun D2 nD2 => ?_⟩
        refine lc_it (walk_list (xs := zs)) (fun i H' => Same HM H' ∧ ∃ us, H' D2 = some (.lst us) ∧ All2 (KyT H') us (((heldW L w).take i).filter fun r => !decide (r = q))) ⟨same_new nD2, [], upd_same, .nil⟩ (fun _ _ _ h => SqL.of (h.1 _ _ hTM)) ?_ ?_
        · rintro i v H6 H7 hi ⟨s6, us, hD2, hus⟩ ⟨rfl, hv⟩
          obtain ⟨k, ek, t, rfl, ht⟩ := hzM.at hv
          have ht := s6 _ _ ht
          have ul := hus.len
          have fl := List.length_filter_le (fun r => !decide (r = q)) ((heldW L w).take i)
          rw [List.length_take] at fl
          refine ⟨rfl, k, q, ⟨t, rfl, SqT.of ht⟩, ⟨b, rfl, SqT.of (s6 _ _ hbM)⟩, ?_⟩
          refine ite2 (fun c => ?_) (fun c => ?_)
          · have c : (!decide (k = q)) = true := c
            refine ⟨us, hD2, line_lt (by omega), keep_new nD2 s6, _, upd_same, ?_⟩
            have tp : TupS H7 (upd H7 D2 (.lst (us ++ [.ref t]))) := TupS.upd fun xs e => by rw [hD2] at e; cases e
            rw [take_snoc ek, List.filter_append, List.filter_cons_of_pos (by exact c)]
            exact (hus.imp fun v p h => h.tup tp).snoc (KyT.tup ⟨t, rfl, ht⟩ tp)
          · have c : ¬ (!decide (k = q)) = true := c
            refine ⟨s6, us, hD2, ?_⟩
            rw [take_snoc ek, List.filter_append, List.filter_cons_of_neg (by exact c), List.filter_nil, List.append_nil]
            exact hus
        rintro HY ⟨s17, us, hD2, hus⟩
        rw [zl, List.take_length] at hus
        have cS : V.ref D2 ≠ .ref S2 := fun z => by
          have := V.ref.inj z
          rw [this, hS2M] at nD2
          cases nD2
        have hS2Y := s17 _ _ hS2M
        refine ⟨S2, ss, j, j, rfl, rfl, hS2Y, ixN_of (by omega), ?_⟩
        have kZ := (kM.trans (.same s17)).new (o := .lst (ss.set j (.ref D2))) nS2
        have fll : (freeL L q w).length ≤ n + 1 := Nat.le_trans (List.length_filter_le _ _) (by omega)
        refine ⟨_, _, _, _, _, _, _, freeL L q w, F, rs.set i (.ref D), ss.set j (.ref D2), rfl, kZ, (dM.new s17).at S2st S2sc, ((hLM.same s17).upd hS2Y).more (by omega), ex.sub, (fun l h => md l (List.mem_filter.mp h).1), (fun l h => li l (List.mem_filter.mp h).1), fll, ?_, by rw [List.length_set]; exact rl, ?_, upd_same, by rw [List.length_set]; exact sl, ?_⟩
        · rw [upd_ne R2S2]
          exact s17 _ _ hR2M
        · refine ((hrM.same s17).put hS2Y fun j u e => ?_).congr fun j hj => ?_
          · rcases set_at e with ⟨_, rfl⟩ | ⟨_, e⟩
            · exact p2S
            · exact (nrs j u e).2
          · rw [List.length_set] at hj
            exact hF_free ok kn eq (by omega)
        · refine (set_helds (hsM.same s17) (fun j u e => (nss j u e).2) hS2Y ⟨D2, us, rfl, hD2, hus⟩ cS (i := j)).congr fun j' hj => ?_
          rw [List.length_set] at hj
          exact gF_free wn ew (by omega)
    -- all places freed but some
    refine ⟨st, scr, pl, ps, rfl, dF, hplF, plst, by omega, fun HG m ms bG dG nm hm pm => ?_⟩
    have mst : m ≠ st := dF.ne_new nm
    have msl := pm.length_eq
    refine ⟨st, scr, m, 3, ms, rfl, dG, hm, mst, by omega, by decide, by decide, fun HI e zb bI dI ne he sub => ?_⟩
    have bI := bG.trans bI
    refine ⟨2, rfl, .inl ⟨zb, SqL.of he, fun u nu => ?_⟩⟩
    rw [cutV_take _ (by decide), show ((2 : Int)).toNat = 2 from rfl]
    have s2 := same_new (o := .lst (zb.take 2)) nu
    have hu := upd_same (H := HI) (a := u) (o := .lst (zb.take 2))
    have ust : u ≠ st := dI.ne_new nu
    have dK := dI.new s2
    have bK := bI.trans (Bt.same (st := st) s2)
    have uR2 : u ≠ R2 := (ne_of_none (bI _ _ R2st hR2F) nu).symm
    have uS2 : u ≠ S2 := (ne_of_none (bI _ _ S2st hS2F) nu).symm
    generalize upd HI u (.lst (zb.take 2)) = HK at hu dK bK s2 ⊢
    have kK : KpX st F HF HK := .bt bK
    have hLK : LkAt K HK a L F n := LkAt.bt dF hLF bK
    have tK := kK.tups dF hLF
    have hpsK := hpsF.imp fun v k h => h.tup tK
    obtain ⟨kb, hkb⟩ : ∃ kb, All2 (KyT HK) (zb.take 2) kb := kys_of fun v hv => by
      have : v ∈ ps := pm.mem_iff.mp (sub.subset (List.mem_of_mem_take hv))
      obtain ⟨i, hi, ei⟩ := List.getElem_of_mem this
      obtain ⟨k, _, hk⟩ := hpsK.at (List.getElem?_eq_getElem hi)
      rw [ei] at hk
      exact ⟨k, hk⟩
    have kb2 : kb.length ≤ 2 := by
      rw [← hkb.len, List.length_take]
      omega
    generalize zb.take 2 = us at hu hkb
    have hR2K := kK.lst hLF R2st hR2F
    have hS2K := kK.lst hLF S2st hS2F
    have hTK := kK.lst hLF T0st hT
    have hplK := kK.lst hLF plst hplF
    have hrK : RowsI HK rs (hF L ks) := fun j u e => (hrsF j u e).kp dF hLF kK
    have hsK : HeldsI HK ss (gF L ws) := fun j u e => (hssF j u e).kp dF hLF kK
    have hzK := hzs.imp fun v k h => h.tup tK
    have kH := kF.trans kK
    clear s2 bK bI bG dG dI sub pm msl mst hm nm he ne nu kK tK hpsF hrsF hssF
    have zl := hzK.len
    have hl := held_len (L := L) (w := w)
    refine ⟨T0, rfl, ⟨_, SqL.of hTK⟩, fun D nD => ?_⟩
    refine lc_it (walk_list (xs := zs)) (fun i H' => Same HK H' ∧ ∃ us, H' D = some (.lst us) ∧ All2 (KyT H') us (((heldW L w).take i).filter fun r => decide (r ∈ kb))) ⟨same_new nD, [], upd_same, .nil⟩ (fun _ _ _ h => SqL.of (h.1 _ _ hTK)) ?_ ?_
    · rintro i v H6 H7 hi ⟨s6, ys, hD, hys⟩ ⟨rfl, hv⟩
      obtain ⟨k, ek, t, rfl, ht⟩ := hzK.at hv
      have ht := s6 _ _ ht
      have yl := hys.len
      have fl := List.length_filter_le (fun r => decide (r ∈ kb)) ((heldW L w).take i)
      rw [List.length_take] at fl
      refine ⟨rfl, k, u, us, kb, ⟨t, rfl, SqT.of ht⟩, rfl, .inr (SqL.of (s6 _ _ hu)), kys_in (hkb.imp fun v k h => h.same s6), ?_⟩
      refine ite2 (fun c => ?_) (fun c => ?_)
      · have c : decide (k ∈ kb) = true := c
        refine ⟨ys, hD, line_lt (by omega), keep_new nD s6, _, upd_same, ?_⟩
        have tp : TupS H7 (upd H7 D (.lst (ys ++ [.ref t]))) := TupS.upd fun xs e => by rw [hD] at e; cases e
        rw [take_snoc ek, List.filter_append, List.filter_cons_of_pos (by exact c)]
        exact (hys.imp fun v p h => h.tup tp).snoc (KyT.tup ⟨t, rfl, ht⟩ tp)
      · have c : ¬ decide (k ∈ kb) = true := c
        refine ⟨s6, ys, hD, ?_⟩
        rw [take_snoc ek, List.filter_append, List.filter_cons_of_neg (by exact c), List.filter_nil, List.append_nil]
        exact hys
    rintro HL ⟨sL, ys, hD, hys⟩
    rw [zl, List.take_length] at hys
    have DS : V.ref D ≠ .ref S2 := fun z => by
      have := V.ref.inj z
      rw [this, hS2K] at nD
      cases nD
    have hS2L := sL _ _ hS2K
    refine ⟨S2, ss, j, j, rfl, rfl, hS2L, ixN_of (by omega), ?_⟩
    have hsM := set_helds (hsK.same sL) (fun j u e => (nss j u e).2) hS2L ⟨D, ys, rfl, hD, hys⟩ DS (i := j)
    have hrM := (hrK.same sL).put (ys := ss.set j (.ref D)) hS2L fun j u e => (nrs j u e).2
    have dM := (dK.new sL).at (o := .lst (ss.set j (.ref D))) S2st S2sc
    have hLM := (hLK.same sL).upd (ys := ss.set j (.ref D)) hS2L
    have kM := (kH.trans (.same sL)).new (o := .lst (ss.set j (.ref D))) nS2
    have tM : TupS HK (upd HL S2 (.lst (ss.set j (.ref D)))) := (TupS.same sL).trans (TupS.upd fun xs e => by rw [hS2L] at e; cases e)
    have hS2M := upd_same (H := HL) (a := S2) (o := .lst (ss.set j (.ref D)))
    have hR2M : upd HL S2 (.lst (ss.set j (.ref D))) R2 = some (.lst rs) := by rw [upd_ne R2S2]; exact sL _ _ hR2K
    have hTM : upd HL S2 (.lst (ss.set j (.ref D))) T0 = some (.lst zs) := by rw [upd_ne T0S2]; exact sL _ _ hTK
    have huM : upd HL S2 (.lst (ss.set j (.ref D))) u = some (.lst us) := by rw [upd_ne uS2]; exact sL _ _ hu
    have plS2 : pl ≠ S2 := ne_of_none hpl nS2
    have plR2 : pl ≠ R2 := ne_of_none hpl nR2
    have hplM : upd HL S2 (.lst (ss.set j (.ref D))) pl = some (.lst ps) := by rw [upd_ne plS2]; exact sL _ _ hplK
    have hDM : upd HL S2 (.lst (ss.set j (.ref D))) D = some (.lst ys) := by rw [upd_ne fun e => DS (congrArg _ e)]; exact hD
    generalize upd HL S2 (.lst (ss.set j (.ref D))) = HM at hrM hsM dM hLM kM hR2M hS2M tM hTM huM hplM hDM ⊢
    have hkM := hkb.imp fun v k h => h.tup tM
    have hpsM := hpsK.imp fun v k h => h.tup tM
    have hyl := hys.len
    refine ⟨a, u, w, us, L, kb, F, n, rfl, hLM, huM, hkM, kb2, by omega, fun HN keN hLN => ?_⟩
    have tN : TupS HM HN := fun b xs h => hLM.stay keN h (by intro _ z; cases z) (by intro _ z; cases z)
    have lN : ∀ {b xs}, HM b = some (.lst xs) → HN b = some (.lst xs) := fun {b xs} h => hLM.stay keN h (by intro _ z; cases z) (by intro _ z; cases z)
    refine .inl ⟨_, .inl (SqL.of (lN hTM)), _, .inl (SqL.of (lN hS2M)), .ref D, atI_nat (by rw [List.getElem?_set_self (by omega)]), .inl ⟨_, .inl (SqL.of (lN hDM)), ?_⟩⟩
    have bl := both_len (fun r => decide (r ∈ kb)) (heldW L w)
    refine ⟨_, _, rfl, (by
      show SameV K HN 24 (.int (((heldW L w).filter fun q => !decide (q ∈ kb)).length : Int)) (.int ((zs.length : Int) - ys.length))
      rw [show (zs.length : Int) - ys.length = (((heldW L w).filter fun q => !decide (q ∈ kb)).length : Int) by omega]
      exact same_int _), ?_⟩
    have dN := dr_keep dM hLM keN
    have kN := kM.trans (.keep keN)
    have hrN : RowsI HN rs (hF L ks) := fun j u e => (hrM j u e).kp dM hLM (.keep keN)
    have hsN := fun j u e => (hsM j u e).kp dM hLM (.keep keN)
    have hsN : HeldsI HN (ss.set j (.ref D)) (gF (freeAllL L w kb) ws) := HeldsI.congr hsN fun j' hj => by
      rw [List.length_set] at hj
      exact gF_free_all wn ew (by omega)
    have hR2N := lN hR2M
    have hS2N := lN hS2M
    have huN := lN huM
    have hplN := lN hplM
    have hkN := hkM.imp fun v k h => h.tup tN
    have hpsN := hpsM.imp fun v k h => h.tup tN
    have nss2 : ∀ (j' : Nat) (v : V), (ss.set j (.ref D))[j']? = some v → v ≠ .ref R2 := fun j' v e => by
      rcases set_at e with ⟨_, rfl⟩ | ⟨_, e⟩
      · intro z
        have := V.ref.inj z
        rw [this, hR2K] at nD
        cases nD
      · exact (nss j' v e).1
    clear keN tN lN bl hkM hpsM tM kM dM hLM hsM hrM hyl hTM hplM hDM huM hR2M hS2M hys hD sL nD DS hLK hpsK hkb hu hR2K hS2K hTK hplK hrK hsK hzK kH dK zl hl
    have sN : (ss.set j (.ref D)).length = ws.length := by rw [List.length_set]; exact sl
    generalize ss.set j (.ref D) = ssN at hsN hS2N nss2 sN
    refine .inl ⟨_, .inl (SqL.of hplN), _, rfl, by omega, by omega, ?_⟩
    refine for_range (lo := 0) (n := ps.length) (fun k σ' H' => (∃ y14 y15 y16 y18 y19 y20, σ' = [some (.ref st), some (.ref a), some (.ref bf), some (.ref pl), some (.ref wl), some (.ref R2), some (.ref S2), some (.int kd), some (.int i), some (.int j), some (.ref b), some (.int w), some (.ref T0), none, y14, y15, y16, some (.ref u), y18, y19, y20]) ∧
      KpX st F H H' ∧ DrAt H' st scr ∧ LkAt K H' a (freeAllL L w kb) F n ∧ (H' u = some (.lst us) ∧ All2 (KyT H') us kb ∧ H' pl = some (.lst ps) ∧ All2 (KyT H') ps ks) ∧ (H' S2 = some (.lst ssN) ∧ HeldsI H' ssN (gF (freeAllL L w kb) ws)) ∧
      ∃ rs', H' R2 = some (.lst rs') ∧ rs'.length = ks.length ∧ (∀ (j : Nat) (v : V), rs'[j]? = some v → v ≠ .ref R2) ∧ RowsI H' rs' (fun j => if j < k then hF (freeAllL L w kb) ks j else hF L ks j)) ⟨⟨_, _, _, _, _, _, rfl⟩, kN, dN, hLN, ⟨huN, hkN, hplN, hpsN⟩, ⟨hS2N, hsN⟩, rs, hR2N, rl, (fun j v e => (nrs j v e).1), hrN.congr fun j _ => if_neg (Nat.not_lt_zero _)⟩ ?_ ?_
    · clear kN dN hLN huN hkN hplN hpsN hS2N hsN hR2N hrN
      rintro k σ' H1 hk ⟨⟨y14, y15, y16, y18, y19, y20, rfl⟩, k1, d1, g1, ⟨hu1, hk1, hpl1, hps1⟩, ⟨hS1, hs1⟩, rs', hR1, rl1, nr1, hr1⟩
      obtain ⟨qk, bk, epk, eqk, hbk⟩ : ∃ q b, ps[k]? = some (.ref b) ∧ ks[k]? = some q ∧ H1 b = some (.tup (q.map kV)) := by
        obtain ⟨q, eq, b, e, hb⟩ := hps1.at (List.getElem?_eq_getElem hk)
        exact ⟨q, b, by rw [List.getElem?_eq_getElem hk, e], eq, hb⟩
      have aP : atI ps (0 + (k : Int)) = some (.ref bk) := by rw [Int.zero_add]; exact atI_nat epk
      refine ⟨_, .inl (SqL.of hpl1), _, aP, qk, u, us, kb, ⟨bk, rfl, SqT.of hbk⟩, rfl, .inr (SqL.of hu1), kys_in hk1, ?_⟩
      refine ite2 (fun c => ?_) (fun c => ?_)
      · have c : (!decide (qk ∈ kb)) = true := c
        have c : ¬ qk ∈ kb := fun h => by rw [decide_eq_true h] at c; exact absurd c (by decide)
        obtain ⟨rv, er⟩ : ∃ rv, rs'[k]? = some rv := ⟨_, List.getElem?_eq_getElem (by omega)⟩
        have hrow : RowAt H1 rv (if k < k then hF (freeAllL L w kb) ks k else hF L ks k) := hr1 k rv er
        rw [if_neg (Nat.lt_irrefl k), hF_at eqk] at hrow
        obtain ⟨r, xs, rfl, hr0, hxs⟩ := hrow
        have aR : atI rs' (0 + (k : Int)) = some (.ref r) := by rw [Int.zero_add]; exact atI_nat er
        have hqL := holders_len (L := L) (q := qk)
        have xl := hxs.len
        refine ⟨_, .inl (SqL.of hR1), _, aR, r, rfl, ⟨_, SqL.of hr0⟩, fun D nD => ?_⟩
        refine lc_it (walk_list (xs := xs)) (fun i H' => Same H1 H' ∧ ∃ ys, H' D = some (.lst ys) ∧ PrAs H' ys (((holdersOf L qk).take i).filter fun p => !decide (p.1 = w))) ⟨same_new nD, [], upd_same, .nil⟩ (fun _ _ _ h => SqL.of (h.1 _ _ hr0)) ?_ ?_
        · rintro i v H3 H4 hi ⟨s3, ys, hD, hys⟩ ⟨rfl, hv⟩
          obtain ⟨⟨x, z⟩, e, t, rfl, ht0⟩ := hxs.at hv
          have ht := s3 _ _ ht0
          have yl := hys.len
          have fl := List.length_filter_le (fun p : Int × Str => !decide (p.1 = w)) ((holdersOf L qk).take i)
          rw [List.length_take] at fl
          have i0 : atI [V.int x, .str z] (0 : Int) = some (.int x) := rfl
          refine ⟨rfl, _, .inr (SqT.of ht), _, i0, ?_⟩
          refine ite2 (fun c => ?_) (fun c => ?_)
          · have c : (!decide (x = w)) = true := c
            refine ⟨ys, hD, line_lt (by omega), keep_new nD s3, _, upd_same, ?_⟩
            have tp : TupS H4 (upd H4 D (.lst (ys ++ [.ref t]))) := TupS.upd fun xs e => by rw [hD] at e; cases e
            rw [take_snoc e, List.filter_append, List.filter_cons_of_pos (by exact c)]
            exact (hys.imp fun v p h => h.tup tp).snoc (PrA.tup ⟨t, rfl, ht⟩ tp)
          · have c : ¬ (!decide (x = w)) = true := c
            refine ⟨s3, ys, hD, ?_⟩
            rw [take_snoc e, List.filter_append, List.filter_cons_of_neg (by exact c), List.filter_nil, List.append_nil]
            exact hys
        rintro HL ⟨sL, ys, hp2, hys⟩
        rw [xl, List.take_length] at hys
        have p2R : V.ref D ≠ .ref R2 := fun z => by
          have := V.ref.inj z
          rw [this, hR1] at nD
          cases nD
        have hR2L := sL _ _ hR1
        refine ⟨R2, rs', 0 + (k : Int), k, rfl, rfl, hR2L, by rw [Int.zero_add]; exact ixN_of (by omega), ?_⟩
        have hrM := set_rows (hr1.same sL) nr1 hR2L ⟨D, ys, rfl, hp2, hys⟩ p2R (i := k)
        have tM : TupS HL (upd HL R2 (.lst (rs'.set k (.ref D)))) := TupS.upd fun xs e => by rw [hR2L] at e; cases e
        refine ⟨⟨_, _, _, _, _, _, rfl⟩, (k1.trans (.same sL)).new nR2, (d1.new sL).at R2st R2sc, (g1.same sL).upd hR2L, ⟨by rw [upd_ne uR2]; exact sL _ _ hu1, hk1.imp fun v k h => (h.same sL).tup tM, by rw [upd_ne plR2]; exact sL _ _ hpl1, hps1.imp fun v k h => (h.same sL).tup tM⟩, ⟨by rw [upd_ne R2S2.symm]; exact sL _ _ hS1, (hs1.same sL).put hR2L nss2⟩, _, upd_same, by rw [List.length_set]; exact rl1, fun j v e => ?_, hrM.congr fun j hj => ?_⟩
        · rcases set_at e with ⟨_, rfl⟩ | ⟨_, e⟩
          · exact p2R
          · exact nr1 j v e
        · show (if j < k + 1 then _ else _) = if j = k then _ else if j < k then _ else _
          by_cases e1 : j = k
          · subst e1
            rw [if_pos (by omega), if_pos rfl, hF_at eqk, holders_free_all ok, if_neg c]
          · rw [if_neg e1]
            by_cases e2 : j < k
            · rw [if_pos (by omega), if_pos e2]
            · rw [if_neg (by omega), if_neg e2]
      · have c : ¬ (!decide (qk ∈ kb)) = true := c
        have c : qk ∈ kb := Classical.byContradiction fun h => c (by rw [decide_eq_false h]; rfl)
        refine ⟨⟨_, _, _, _, _, _, rfl⟩, k1, d1, g1, ⟨hu1, hk1, hpl1, hps1⟩, ⟨hS1, hs1⟩, rs', hR1, rl1, nr1, hr1.congr fun j hj => ?_⟩
        show (if j < k + 1 then _ else _) = if j < k then _ else _
        by_cases e1 : j = k
        · subst e1
          rw [if_pos (by omega), if_neg (Nat.lt_irrefl j), hF_at eqk, hF_at eqk, holders_free_all ok, if_pos c]
        · by_cases e2 : j < k
          · rw [if_pos (by omega), if_pos e2]
          · rw [if_neg (by omega), if_neg e2]
    · rintro σ' H1 ⟨⟨y14, y15, y16, y18, y19, y20, rfl⟩, k1, d1, g1, _, ⟨hS1, hs1⟩, rs', hR1, rl1, nr1, hr1⟩
      have fll : (freeAllL L w kb).length ≤ n + 1 := Nat.le_trans (List.length_filter_le _ _) (by omega)
      refine ⟨_, _, _, _, _, _, _, freeAllL L w kb, F, rs', ssN, rfl, k1, d1, g1.more (by omega), ex.sub, (fun l h => md l (List.mem_filter.mp h).1), (fun l h => li l (List.mem_filter.mp h).1), fll, hR1, rl1, hr1.congr fun j hj => ?_, hS1, sN, hs1⟩
      show _ = if j < ps.length then _ else _
      rw [if_pos (by omega)]
  rintro σ' H' ⟨y14, y15, y16, y17, y18, y19, y20, L', F', rs', ss', rfl, k', d', hL', ex', md', li', few', hR', rl', hrs', hS', sl', hss'⟩
  have hpl' := k'.lst hL plst hpl
  have hwl' := k'.lst hL wst hwl
  have hps' := hps.imp fun v k h => h.tup (k'.tups dA hL)
  refine ⟨a, pl, wl, ps, ks, ws, L', F', n + 1, rfl, hL', ex', md', li', by omega, hpl', hps', hwl', by omega, by omega, kn, fun H2 t R3 S3 rs3 ss3 s2 ht hR3 hS3 rl3 sl3 hrs3 hss3 => ?_⟩
  have j0 : atI [V.ref R3, .ref S3] (0 : Int) = some (.ref R3) := rfl
  have j1 : atI [V.ref R3, .ref S3] (1 : Int) = some (.ref S3) := rfl
  have hF1 : ∀ j, (hF L' ks j).length ≤ 1000 := fun j => Nat.le_trans holders_len (by omega)
  have gF1 : ∀ j, (gF L' ws j).length ≤ 1000 := fun j => Nat.le_trans held_len (by omega)
  have gk : ∀ j, ∀ k ∈ gF L' ws j, k.length ≤ 10 := fun j k h => by
    obtain ⟨m, hm⟩ := mem_held.mp h
    exact k10 _ (li' _ hm).1
  refine ⟨_, .inr (SqT.of ht), _, j0, _, _, rfl, same_rows hR3 (s2 _ _ hR') hrs3 (hrs'.same s2) (by omega) (by omega) hF1, ?_⟩
  refine ⟨_, .inr (SqT.of ht), _, j1, _, _, rfl, same_helds hS3 (s2 _ _ hS') hss3 (hss'.same s2) (by omega) (by omega) gF1 gk, ?_⟩
  exact qq H2 L' F' (k'.trans (.same s2)) (d'.new s2) (hL'.same s2) ex' md' li' few'
end
section
variable {P : Program} {w : World} {K : PySem.W.Frag} {mg : Str → Option Value} {base : Heap}
variable {a_LockTable : Addr}
theorem same_nils {H : Hp} {R U : Addr} {rs us : List V} {n : Nat} (hR : H R = some (.lst rs)) (hU : H U = some (.lst us)) (l : rs.length = us.length) (few : us.length ≤ 1000)
    (a : ∀ (j : Nat) (u : V), rs[j]? = some u → ∃ r, u = .ref r ∧ H r = some (.lst [])) (b : ∀ (j : Nat) (u : V), us[j]? = some u → ∃ r, u = .ref r ∧ H r = some (.lst [])) : SameV K H (n + 2) (.ref R) (.ref U) :=
  .inr (.inr (.inl ⟨R, U, rs, us, rfl, rfl, hR, hU, l, few, fun i u v hu hv => by
    obtain ⟨r, rfl, hr⟩ := a i u hu
    obtain ⟨r2, rfl, hr2⟩ := b i v hv
    exact .inr (.inr (.inl ⟨r, r2, [], [], rfl, rfl, hr, hr2, rfl, Nat.zero_le _, fun i u v hu _ => by simp at hu⟩))⟩))
theorem hF_nil {ks : List Plc} {i : Nat} : hF [] ks i = [] := by
  unfold hF
  have := (holders_perm (L := []) (q := ks.getD i [])).length_eq
  exact List.eq_nil_of_length_eq_zero this
theorem len4_ne_st {st scr r : Addr} {H : Hp} {xs : List V} (d : DrAt H st scr) (h : H r = some (.lst xs)) (l : xs.length = 4) : r ≠ st := fun e => by
  obtain ⟨ns, i, v, m, c, e1, _⟩ := d
  rw [e, e1] at h
  cases h
  exact absurd (show (5 : Nat) = 4 from l) (by decide)
theorem gF_nil {ws : List Int} {i : Nat} : gF [] ws i = [] := rfl
theorem ok_law {f : Addr} {fd : FuncData} {f__law_state : Addr} {fd__law_state : FuncData} {f__law_names : Addr} {fd__law_names : FuncData} {f__law_values : Addr} {fd__law_values : FuncData} {f__law_mixed : Addr} {fd__law_mixed : FuncData} {f__law_seen : Addr} {fd__law_seen : FuncData} {f__law_same : Addr} {fd__law_same : FuncData} {f__law_draw : Addr} {fd__law_draw : FuncData} {f__law_blockers_right : Addr} {fd__law_blockers_right : FuncData} {f__law_step_right : Addr} {fd__law_step_right : FuncData} {f_LockTable___init__ : Addr} {fd_LockTable___init__ : FuncData} (F : Fun K "law" "law" s_law f fd) (T : Gs K mg a_LockTable) (c__law_state : Cal P w K mg base CX0 1 "_law_state" f__law_state fd__law_state ["_law_script"] (sp__law_state K)) (c__law_names : Cal P w K mg base CX0 2 "_law_names" f__law_names fd__law_names ["_law_state_here", "_law_many"] (sp__law_names K)) (c__law_values : Cal P w K mg base CX0 4 "_law_values" f__law_values fd__law_values ["_law_state_here"] (sp__law_values K)) (c__law_mixed : Cal P w K mg base CX0 2 "_law_mixed" f__law_mixed fd__law_mixed ["_law_state_here", "_law_row"] (sp__law_mixed K)) (c__law_seen : Cal P w K mg base CX0 3 "_law_seen" f__law_seen fd__law_seen ["_law_desk", "_law_places", "_law_writers"] (sp__law_seen K)) (c__law_same : Cal P w K mg base CX0 26 "_law_same" f__law_same fd__law_same ["_law_actual", "_law_due"] (sp__law_same K)) (c__law_draw : Cal P w K mg base CX0 1 "_law_draw" f__law_draw fd__law_draw ["_law_state_here", "_law_many"] (sp__law_draw K)) (c__law_blockers_right : Cal P w K mg base CX0 27 "_law_blockers_right" f__law_blockers_right fd__law_blockers_right ["_law_desk", "_law_rows", "_law_places", "_law_writers"] (sp__law_blockers_right K)) (c__law_step_right : Cal P w K mg base CX0 27 "_law_step_right" f__law_step_right fd__law_step_right ["_law_state_here", "_law_desk", "_law_before", "_law_places", "_law_writers"] (sp__law_step_right K)) (c_LockTable___init__ : CalI P w K mg base CX0 1 "LockTable" a_LockTable f_LockTable___init__ fd_LockTable___init__ ["self"] (sp_LockTable___init__ K)) : FnOk P w K mg base CX0 80 f fd ["_law_script"] (sp_law K) := by
  refine F.ok sc_law (fun vs H Q E h => len_law h) (fun cdv A outer s H vs Q E hr h => ?_)
  obtain ⟨a, ns, rfl, hS, hl, q⟩ := h
  refine ⟨_, (pss_cons (ps_set (i := 1) sc_law.nd rfl (.inl rfl) (pe_call c__law_state.G (hr.mono (by first | decide | omega)) rfl c__law_state.m c__law_state.kp c__law_state.b .nil pass0 (pa_cons (v_ 0) pa_nil))) (pss_cons (ps_set (i := 2) sc_law.nd rfl (.inl rfl) (pe_call c__law_names.G (hr.mono (by first | decide | omega)) rfl c__law_names.m c__law_names.kp c__law_names.b .nil pass0 (pa_cons (v_ 1) (pa_cons pe_int pa_nil)))) (pss_cons (ps_set (i := 3) sc_law.nd rfl (.inl rfl) (pe_call c__law_values.G (hr.mono (by first | decide | omega)) rfl c__law_values.m c__law_values.kp c__law_values.b .nil pass0 (pa_cons (v_ 1) pa_nil))) (pss_cons (ps_set (i := 4) sc_law.nd rfl (.inl rfl) (pe_lst (pa_cons (pe_tup (pa_cons pe_str (pa_cons (e_x K (v_ 2) pe_int) (pa_cons (e_x K (v_ 3) pe_int) pa_nil)))) (pa_cons (pe_tup (pa_cons pe_str (pa_cons (e_x K (v_ 2) pe_int) (pa_cons (e_x K (v_ 3) pe_int) pa_nil)))) (pa_cons (pe_tup (pa_cons pe_str (pa_cons (e_x K (v_ 2) pe_int) (pa_cons (e_x K (v_ 3) pe_int) pa_nil)))) pa_nil))))) (pss_cons (ps_expr (pe_bm PySem.F.plainAttrs_list PySem.F.slot_list_append PySem.F.type_list_append mt_append (v_ 4) (pa_cons (pe_tup (pa_cons pe_str (pa_cons (e_x K (v_ 3) pe_int) pa_nil))) pa_nil))) (pss_cons (ps_set (i := 5) sc_law.nd rfl (.inl rfl) (pe_call c__law_mixed.G (hr.mono (by first | decide | omega)) rfl c__law_mixed.m c__law_mixed.kp c__law_mixed.b .nil pass0 (pa_cons (v_ 1) (pa_cons (pe_call c__law_values.G (hr.mono (by first | decide | omega)) rfl c__law_values.m c__law_values.kp c__law_values.b .nil pass0 (pa_cons (v_ 1) pa_nil)) pa_nil)))) (pss_cons (ps_set (i := 6) sc_law.nd rfl (.inl rfl) (pe_make0 c_LockTable___init__.mkc c_LockTable___init__.G (hr.mono (by first | decide | omega)) rfl c_LockTable___init__.m c_LockTable___init__.b .nil pass0)) (pss_cons (ps_set (i := 7) sc_law.nd rfl (.inl rfl) (pe_call c__law_seen.G (hr.mono (by first | decide | omega)) rfl c__law_seen.m c__law_seen.kp c__law_seen.b .nil pass0 (pa_cons (v_ 6) (pa_cons (v_ 4) (pa_cons (v_ 5) pa_nil))))) (pss_cons (ps_if (PW.pt (pw_or (pt_c op_isM (v_ 7) pe_non) (pw_or1 (pt_not (pt_t K (pe_call c__law_same.G (hr.mono (by first | decide | omega)) rfl c__law_same.m c__law_same.kp c__law_same.b .nil pass0 (pa_cons (v_ 7) (pa_cons (pe_tup (pa_cons (pe_lst (pa_cons (pe_lst pa_nil) (pa_cons (pe_lst pa_nil) (pa_cons (pe_lst pa_nil) (pa_cons (pe_lst pa_nil) pa_nil))))) (pa_cons (pe_lst (pa_cons (pe_lst pa_nil) (pa_cons (pe_lst pa_nil) (pa_cons (pe_lst pa_nil) (pa_cons (pe_lst pa_nil) pa_nil))))) pa_nil))) pa_nil)))))))) (pss_one (ps_ret pe_bl)) pss_nil) (pss_cons (ps_for PassesOwn.never rfl (pi_range1 rfl T.z_range (pa_cons (pe_op op_subM pe_int (pe_call c__law_draw.G (hr.mono (by first | decide | omega)) rfl c__law_draw.m c__law_draw.kp c__law_draw.b .nil pass0 (pa_cons (v_ 1) (pa_cons pe_int pa_nil)))) pa_nil)) (pg_name (i := 8) sc_law.nd rfl (.inl rfl)) (pss_cons (ps_if (pt_not (pt_t K (pe_call c__law_blockers_right.G (hr.mono (by first | decide | omega)) rfl c__law_blockers_right.m c__law_blockers_right.kp c__law_blockers_right.b .nil pass0 (pa_cons (v_ 6) (pa_cons (e_x K (v_ 7) pe_int) (pa_cons (v_ 4) (pa_cons (v_ 5) pa_nil))))))) (pss_one (ps_ret pe_bl)) pss_nil) (pss_cons (ps_if (pt_not (pt_t K (pe_call c__law_step_right.G (hr.mono (by first | decide | omega)) rfl c__law_step_right.m c__law_step_right.kp c__law_step_right.b .nil pass0 (pa_cons (v_ 1) (pa_cons (v_ 6) (pa_cons (v_ 7) (pa_cons (v_ 4) (pa_cons (v_ 5) pa_nil)))))))) (pss_one (ps_ret pe_bl)) pss_nil) (pss_cons (ps_set (i := 7) sc_law.nd rfl (.inl rfl) (pe_call c__law_seen.G (hr.mono (by first | decide | omega)) rfl c__law_seen.m c__law_seen.kp c__law_seen.b .nil pass0 (pa_cons (v_ 6) (pa_cons (v_ 4) (pa_cons (v_ 5) pa_nil))))) (pss_one (ps_if (pt_c op_isM (v_ 7) pe_non) (pss_one (ps_ret pe_bl)) pss_nil)))))) (pss_one (ps_ret pe_bl)))))))))))), ?_⟩
  refine ⟨a, ns, rfl, hS, hl, fun H1 st scr s1 n1 n2 d1 => ?_⟩
  refine ⟨st, scr, 2, rfl, d1, by decide, fun H2 p zs b2 d2 np hp lz hz nz => ?_⟩
  have pst : p ≠ st := d1.ne_new np
  clear b2 d1 s1 hS
  obtain ⟨z0, z1, rfl⟩ : ∃ z0 z1, zs = [z0, z1] := match zs, lz with
    | [x, y], _ => ⟨x, y, rfl⟩
  refine ⟨st, scr, rfl, d2, fun H3 v ns b3 d3 nv hv ln vn => ?_⟩
  have hp := b3 _ _ pst hp
  have vst : v ≠ st := d2.ne_new nv
  obtain ⟨v0, v1, v2, v3, rfl⟩ : ∃ v0 v1 v2 v3, ns = [v0, v1, v2, v3] := match ns, ln with
    | [x, y, z, u], _ => ⟨x, y, z, u, rfl⟩
  clear b3 d2 nv np ln
  refine g_is [some (.ref a), some (.ref st), some (.ref p), some (.ref v), none, none, none, none, none] rfl ?_
  have p0 : atI ([z0, z1].map V.str) (0 : Int) = some (.str z0) := rfl
  have p1 : atI ([z0, z1].map V.str) (1 : Int) = some (.str z1) := rfl
  have q0 : atI ([v0, v1, v2, v3].map V.int) (0 : Int) = some (.int v0) := rfl
  have q1 : atI ([v0, v1, v2, v3].map V.int) (1 : Int) = some (.int v1) := rfl
  refine ⟨_, .inl (SqL.of hp), _, p0, _, .inl (SqL.of hv), _, q0, (by show 3 ≤ sizeLine; decide), fun t1 nt1 => ?_⟩
  have s1 := same_new (o := .tup [.str "key", .str z0, .int v0]) nt1
  have h1 := upd_same (H := H3) (a := t1) (o := .tup [.str "key", .str z0, .int v0])
  generalize upd H3 t1 (.tup [.str "key", .str z0, .int v0]) = H4 at s1 h1 ⊢
  refine ⟨_, .inl (SqL.of (s1 _ _ hp)), _, p1, _, .inl (SqL.of (s1 _ _ hv)), _, q0, (by show 3 ≤ sizeLine; decide), fun t2 nt2 => ?_⟩
  have s2 := same_new (o := .tup [.str "key", .str z1, .int v0]) nt2
  have h2 := upd_same (H := H4) (a := t2) (o := .tup [.str "key", .str z1, .int v0])
  generalize upd H4 t2 (.tup [.str "key", .str z1, .int v0]) = H5 at s2 h2 ⊢
  have h1 := s2 _ _ h1
  have s1 := s1.trans s2
  clear s2
  refine ⟨_, .inl (SqL.of (s1 _ _ hp)), _, p0, _, .inl (SqL.of (s1 _ _ hv)), _, q1, (by show 3 ≤ sizeLine; decide), fun t3 nt3 => ?_⟩
  have s2 := same_new (o := .tup [.str "key", .str z0, .int v1]) nt3
  have h3 := upd_same (H := H5) (a := t3) (o := .tup [.str "key", .str z0, .int v1])
  generalize upd H5 t3 (.tup [.str "key", .str z0, .int v1]) = H6 at s2 h3 ⊢
  have h1 := s2 _ _ h1
  have h2 := s2 _ _ h2
  have s1 := s1.trans s2
  clear s2 nt1 nt2 nt3
  refine ⟨(by show 3 ≤ sizeLine; decide), fun pl npl => ?_⟩
  have plst : pl ≠ st := (d3.new s1).ne_new npl
  have plsc : pl ≠ scr := (d3.new s1).ne_scr npl
  have s2 := same_new (o := .lst [.ref t1, .ref t2, .ref t3]) npl
  have hpl := upd_same (H := H6) (a := pl) (o := .lst [.ref t1, .ref t2, .ref t3])
  generalize upd H6 pl (.lst [.ref t1, .ref t2, .ref t3]) = H7 at s2 hpl ⊢
  have h1 := s2 _ _ h1
  have h2 := s2 _ _ h2
  have h3 := s2 _ _ h3
  have s1 := s1.trans s2
  clear s2 npl
  refine g_is [some (.ref a), some (.ref st), some (.ref p), some (.ref v), some (.ref pl), none, none, none, none] rfl ?_
  refine ⟨.inl ⟨rfl, _, SqL.of hpl⟩, _, .inl (SqL.of (s1 _ _ hv)), _, q1, (by show 2 ≤ sizeLine; decide), fun t4 nt4 => ?_⟩
  have s2 := same_new (o := .tup [.str "row", .int v1]) nt4
  have h4 := upd_same (H := H7) (a := t4) (o := .tup [.str "row", .int v1])
  generalize upd H7 t4 (.tup [.str "row", .int v1]) = H8 at s2 h4 ⊢
  have h1 := s2 _ _ h1
  have h2 := s2 _ _ h2
  have h3 := s2 _ _ h3
  have hpl := s2 _ _ hpl
  have s1 := s1.trans s2
  have d4 := d3.new s1
  clear s2 nt4 hp hv s1 d3 p0 p1 q0 q1
  refine ⟨pl, _, _, rfl, rfl, hpl, (by show 3 < sizeLine; decide), ?_⟩
  have n1 := ne_of h1 hpl (by intro z; cases z)
  have n2 := ne_of h2 hpl (by intro z; cases z)
  have n3 := ne_of h3 hpl (by intro z; cases z)
  have n4 := ne_of h4 hpl (by intro z; cases z)
  have d5 := d4.at (o := .lst ([.ref t1, .ref t2, .ref t3] ++ [.ref t4])) plst plsc
  have hpl5 := upd_same (H := H8) (a := pl) (o := .lst ([.ref t1, .ref t2, .ref t3] ++ [.ref t4]))
  generalize hH9 : upd H8 pl (.lst ([.ref t1, .ref t2, .ref t3] ++ [.ref t4])) = H9 at d5 hpl5 ⊢
  have hps : All2 (KyT H9) [.ref t1, .ref t2, .ref t3, .ref t4] [[.inr "key", .inr z0, .inl v0], [.inr "key", .inr z1, .inl v0], [.inr "key", .inr z0, .inl v1], [.inr "row", .inl v1]] := by
    rw [← hH9]
    exact .cons ⟨t1, rfl, by rw [upd_ne n1]; exact h1⟩ (.cons ⟨t2, rfl, by rw [upd_ne n2]; exact h2⟩ (.cons ⟨t3, rfl, by rw [upd_ne n3]; exact h3⟩ (.cons ⟨t4, rfl, by rw [upd_ne n4]; exact h4⟩ .nil)))
  have hk : ∀ k ∈ ([[.inr "key", .inr z0, .inl v0], [.inr "key", .inr z1, .inl v0], [.inr "key", .inr z0, .inl v1], [.inr "row", .inl v1]] : List Plc), k.length ≤ 10 := by
    intro k h
    simp only [List.mem_cons, List.not_mem_nil, or_false] at h
    rcases h with rfl | rfl | rfl | rfl
    · show 3 ≤ 10; decide
    · show 3 ≤ 10; decide
    · show 3 ≤ 10; decide
    · show 2 ≤ 10; decide
  have kn : ([[.inr "key", .inr z0, .inl v0], [.inr "key", .inr z1, .inl v0], [.inr "key", .inr z0, .inl v1], [.inr "row", .inl v1]] : List Plc).Nodup := by
    have ez : z0 ≠ z1 := fun e => by
      rw [e] at nz
      exact (List.nodup_cons.mp nz).1 (List.mem_cons_self)
    have ev : v0 ≠ v1 := fun e => by
      rw [e] at vn
      exact (List.nodup_cons.mp vn).1 (List.mem_cons_self)
    refine List.nodup_cons.mpr ⟨fun h => ?_, List.nodup_cons.mpr ⟨fun h => ?_, List.nodup_cons.mpr ⟨fun h => ?_, List.nodup_cons.mpr ⟨fun h => (nomatch h), List.nodup_nil⟩⟩⟩⟩
    · rcases List.mem_cons.mp h with e | h
      · injection e with _ e
        injection e with e _
        exact ez (Sum.inr.inj e)
      · rcases List.mem_cons.mp h with e | h
        · injection e with _ e
          injection e with _ e
          injection e with e _
          exact ev (Sum.inl.inj e)
        · have e := List.mem_singleton.mp h
          injection e with _ e
          injection e with e _
          cases e
    · rcases List.mem_cons.mp h with e | h
      · injection e with _ e
        injection e with e _
        exact ez (Sum.inr.inj e).symm
      · have e := List.mem_singleton.mp h
        injection e with _ e
        injection e with e _
        cases e
    · have e := List.mem_singleton.mp h
      injection e with _ e
      injection e with e _
      cases e
  have hpl : H9 pl = some (.lst [.ref t1, .ref t2, .ref t3, .ref t4]) := hpl5
  clear h1 h2 h3 h4 n1 n2 n3 n4 hpl5 hH9 d4 plsc
  have kl : ([[.inr "key", .inr z0, .inl v0], [.inr "key", .inr z1, .inl v0], [.inr "key", .inr z0, .inl v1], [.inr "row", .inl v1]] : List Plc).length = 4 := rfl
  generalize ([[.inr "key", .inr z0, .inl v0], [.inr "key", .inr z1, .inl v0], [.inr "key", .inr z0, .inl v1], [.inr "row", .inl v1]] : List Plc) = ks at hps hk kl kn
  generalize [V.ref t1, .ref t2, .ref t3, .ref t4] = ps at hps hpl
  refine ⟨st, scr, rfl, d5, fun H10 v2 ns b10 d10 nv2 hv2 ln nn => ?_⟩
  have v2st : v2 ≠ st := d5.ne_new nv2
  refine ⟨st, scr, v2, _, rfl, d10, hv2, v2st, by rw [List.length_map]; omega, fun H11 wl ys b11 d11 nwl hwl pm => ?_⟩
  obtain ⟨ws, rfl, wsl⟩ := perm_ints pm
  have wsl : ws.length = 4 := wsl.trans ln
  have wn : ws.Nodup := by
    have h1 : (ws.map V.int).Nodup := pm.nodup_iff.mpr (List.pairwise_map.mpr (nn.imp fun h e => h (V.int.inj e)))
    exact (List.pairwise_map.mp h1).imp fun h e => h (congrArg _ e)
  have wst : wl ≠ st := d10.ne_new nwl
  have bb := b10.trans b11
  have hpl := bb _ _ plst hpl
  have hps : All2 (KyT H11) ps ks := hps.imp fun v k h => h.tup fun t xs e => bb _ _ (fun z => by
    obtain ⟨l, hl⟩ := d5.lst
    rw [z, hl] at e
    cases e) e
  clear b10 b11 bb d10 d5 nv2 hv2 v2st nwl pm ln nn vn nz
  refine g_is [some (.ref a), some (.ref st), some (.ref p), some (.ref v), some (.ref pl), some (.ref wl), none, none, none] rfl ?_
  refine fun d0 dx nx nd ne => made_desk nx nd ne T.n_LockTable fun H12 F0 s12 hL0 fr0 => ⟨rfl, ?_⟩
  have psl := hps.len
  have hpl := s12 _ _ hpl
  have hwl := s12 _ _ hwl
  have hps := hps.imp fun v k h => h.same s12
  have d12 := d11.new s12
  clear s12 nx nd ne fr0 d11
  have ex0 : LEx [] := fun q x hx => (nomatch hx)
  have md0 : MdOk [] := fun l hl => (nomatch hl)
  have li0 : LIn [] ks ws := fun l hl => (nomatch hl)
  refine ⟨d0, pl, wl, ps, ks, ws, [], F0, 0, rfl, hL0, ex0, md0, li0, by decide, hpl, hps, hwl, by omega, by omega, kn, fun H13 t R S rs ss s13 ht hR hS rl sl hrs hss => ?_⟩
  have hL0 := hL0.same s13
  have hpl := s13 _ _ hpl
  have hwl := s13 _ _ hwl
  have hps := hps.imp fun v k h => h.same s13
  have d13 := d12.new s13
  clear s13 d12
  refine g_is [some (.ref a), some (.ref st), some (.ref p), some (.ref v), some (.ref pl), some (.ref wl), some (.ref d0), some (.ref t), none] rfl ?_
  refine ⟨Nat.zero_le _, fun e0 n0 => ?_⟩
  have s0 := same_new (o := .lst []) n0
  have h0 := upd_same (H := H13) (a := e0) (o := .lst [])
  generalize upd H13 e0 (.lst []) = G0 at s0 h0 ⊢
  refine ⟨Nat.zero_le _, fun e1 n1 => ?_⟩
  have s1 := same_new (o := .lst []) n1
  have h1 := upd_same (H := G0) (a := e1) (o := .lst [])
  generalize upd G0 e1 (.lst []) = G1 at s1 h1 ⊢
  have h0 := s1 _ _ h0
  have s1 := s0.trans s1
  refine ⟨Nat.zero_le _, fun e2 n2 => ?_⟩
  have s2 := same_new (o := .lst []) n2
  have h2 := upd_same (H := G1) (a := e2) (o := .lst [])
  generalize upd G1 e2 (.lst []) = G2 at s2 h2 ⊢
  have h0 := s2 _ _ h0
  have h1 := s2 _ _ h1
  have s2 := s1.trans s2
  refine ⟨Nat.zero_le _, fun e3 n3 => ?_⟩
  have s3 := same_new (o := .lst []) n3
  have h3 := upd_same (H := G2) (a := e3) (o := .lst [])
  generalize upd G2 e3 (.lst []) = G3 at s3 h3 ⊢
  have h0 := s3 _ _ h0
  have h1 := s3 _ _ h1
  have h2 := s3 _ _ h2
  have s3 := s2.trans s3
  refine ⟨(by show 4 ≤ sizeLine; decide), fun e4 n4 => ?_⟩
  have s4 := same_new (o := .lst [.ref e0, .ref e1, .ref e2, .ref e3]) n4
  have h4 := upd_same (H := G3) (a := e4) (o := .lst [.ref e0, .ref e1, .ref e2, .ref e3])
  generalize upd G3 e4 (.lst [.ref e0, .ref e1, .ref e2, .ref e3]) = G4 at s4 h4 ⊢
  have h0 := s4 _ _ h0
  have h1 := s4 _ _ h1
  have h2 := s4 _ _ h2
  have h3 := s4 _ _ h3
  have s4 := s3.trans s4
  refine ⟨Nat.zero_le _, fun e5 n5 => ?_⟩
  have s5 := same_new (o := .lst []) n5
  have h5 := upd_same (H := G4) (a := e5) (o := .lst [])
  generalize upd G4 e5 (.lst []) = G5 at s5 h5 ⊢
  have h0 := s5 _ _ h0
  have h1 := s5 _ _ h1
  have h2 := s5 _ _ h2
  have h3 := s5 _ _ h3
  have h4 := s5 _ _ h4
  have s5 := s4.trans s5
  refine ⟨Nat.zero_le _, fun e6 n6 => ?_⟩
  have s6 := same_new (o := .lst []) n6
  have h6 := upd_same (H := G5) (a := e6) (o := .lst [])
  generalize upd G5 e6 (.lst []) = G6 at s6 h6 ⊢
  have h0 := s6 _ _ h0
  have h1 := s6 _ _ h1
  have h2 := s6 _ _ h2
  have h3 := s6 _ _ h3
  have h4 := s6 _ _ h4
  have h5 := s6 _ _ h5
  have s6 := s5.trans s6
  refine ⟨Nat.zero_le _, fun e7 n7 => ?_⟩
  have s7 := same_new (o := .lst []) n7
  have h7 := upd_same (H := G6) (a := e7) (o := .lst [])
  generalize upd G6 e7 (.lst []) = G7 at s7 h7 ⊢
  have h0 := s7 _ _ h0
  have h1 := s7 _ _ h1
  have h2 := s7 _ _ h2
  have h3 := s7 _ _ h3
  have h4 := s7 _ _ h4
  have h5 := s7 _ _ h5
  have h6 := s7 _ _ h6
  have s7 := s6.trans s7
  refine ⟨Nat.zero_le _, fun e8 n8 => ?_⟩
  have s8 := same_new (o := .lst []) n8
  have h8 := upd_same (H := G7) (a := e8) (o := .lst [])
  generalize upd G7 e8 (.lst []) = G8 at s8 h8 ⊢
  have h0 := s8 _ _ h0
  have h1 := s8 _ _ h1
  have h2 := s8 _ _ h2
  have h3 := s8 _ _ h3
  have h4 := s8 _ _ h4
  have h5 := s8 _ _ h5
  have h6 := s8 _ _ h6
  have h7 := s8 _ _ h7
  have s8 := s7.trans s8
  refine ⟨(by show 4 ≤ sizeLine; decide), fun e9 n9 => ?_⟩
  have s9 := same_new (o := .lst [.ref e5, .ref e6, .ref e7, .ref e8]) n9
  have h9 := upd_same (H := G8) (a := e9) (o := .lst [.ref e5, .ref e6, .ref e7, .ref e8])
  generalize upd G8 e9 (.lst [.ref e5, .ref e6, .ref e7, .ref e8]) = G9 at s9 h9 ⊢
  have h0 := s9 _ _ h0
  have h1 := s9 _ _ h1
  have h2 := s9 _ _ h2
  have h3 := s9 _ _ h3
  have h4 := s9 _ _ h4
  have h5 := s9 _ _ h5
  have h6 := s9 _ _ h6
  have h7 := s9 _ _ h7
  have h8 := s9 _ _ h8
  have s9 := s8.trans s9
  refine ⟨(by show 2 ≤ sizeLine; decide), fun u nu => ?_⟩
  have su := same_new (o := .tup [.ref e4, .ref e9]) nu
  have hu := upd_same (H := G9) (a := u) (o := .tup [.ref e4, .ref e9])
  generalize upd G9 u (.tup [.ref e4, .ref e9]) = GU at su hu ⊢
  have h0 := su _ _ h0
  have h1 := su _ _ h1
  have h2 := su _ _ h2
  have h3 := su _ _ h3
  have h4 := su _ _ h4
  have h5 := su _ _ h5
  have h6 := su _ _ h6
  have h7 := su _ _ h7
  have h8 := su _ _ h8
  have h9 := su _ _ h9
  have su := s9.trans su
  clear s0 s1 s2 s3 s4 s5 s6 s7 s8 s9 n0 n1 n2 n3 n4 n5 n6 n7 n8 n9 nu
  have nil1 : ∀ (j : Nat) (v : V), ([.ref e0, .ref e1, .ref e2, .ref e3] : List V)[j]? = some v → ∃ r, v = .ref r ∧ GU r = some (.lst []) := fun j v e => by
    match j, e with
    | 0, e => cases e; exact ⟨_, rfl, h0⟩
    | 1, e => cases e; exact ⟨_, rfl, h1⟩
    | 2, e => cases e; exact ⟨_, rfl, h2⟩
    | 3, e => cases e; exact ⟨_, rfl, h3⟩
  have nil2 : ∀ (j : Nat) (v : V), ([.ref e5, .ref e6, .ref e7, .ref e8] : List V)[j]? = some v → ∃ r, v = .ref r ∧ GU r = some (.lst []) := fun j v e => by
    match j, e with
    | 0, e => cases e; exact ⟨_, rfl, h5⟩
    | 1, e => cases e; exact ⟨_, rfl, h6⟩
    | 2, e => cases e; exact ⟨_, rfl, h7⟩
    | 3, e => cases e; exact ⟨_, rfl, h8⟩
  have hL0 := hL0.same su
  have hpl := su _ _ hpl
  have hwl := su _ _ hwl
  have hps := hps.imp fun v k h => h.same su
  have d13 := d13.new su
  have ht := su _ _ ht
  have hR := su _ _ hR
  have hS := su _ _ hS
  have hrs := hrs.same su
  have hss := hss.same su
  refine ⟨_, _, rfl, same_tupN (n := 23) (SqT.of ht) (SqT.of hu) rfl (by show 2 ≤ 1000; decide) (fun i x y hx hy => ?_), ?_⟩
  · match i, hx, hy with
    | 0, hx, hy =>
      cases hx
      cases hy
      refine same_nils hR h4 (by show _ = 4; omega) (by show 4 ≤ 1000; decide) (fun j v e => ?_) nil1
      obtain ⟨r, xs, rfl, hr, hx⟩ := hrs j v e
      rw [hF_nil] at hx
      cases hx
      exact ⟨r, rfl, hr⟩
    | 1, hx, hy =>
      cases hx
      cases hy
      refine same_nils hS h9 (by show _ = 4; omega) (by show 4 ≤ 1000; decide) (fun j v e => ?_) nil2
      obtain ⟨r, xs, rfl, hr, hx⟩ := hss j v e
      rw [gF_nil] at hx
      cases hx
      exact ⟨r, rfl, hr⟩
  clear nil1 nil2 h0 h1 h2 h3 h4 h5 h6 h7 h8 h9 hu su
  refine ⟨st, scr, 8, rfl, d13, by decide, many_small (by decide) (by decide), fun x l x0 x1 d14 => ?_⟩
  have b14 : Bt st GU (upd GU st (.lst l)) := Bt.st
  have hL := LkAt.bt d13 hL0 b14
  have tp : TupS GU (upd GU st (.lst l)) := fun b xs e => b14 _ _ (fun z => by
    obtain ⟨l, hl⟩ := d13.lst
    rw [z, hl] at e
    cases e) e
  have kx : KpX st F0 GU (upd GU st (.lst l)) := .bt b14
  have hrs : RowsI _ rs (hF [] ks) := fun j u e => (hrs j u e).kp d13 hL0 kx
  have hss : HeldsI _ ss (gF [] ws) := fun j u e => (hss j u e).kp d13 hL0 kx
  have ht := tp _ _ ht
  have hR := kx.lst hL0 (len4_ne_st d13 hR (by omega)) hR
  have hS := kx.lst hL0 (len4_ne_st d13 hS (by omega)) hS
  have hpl := b14 _ _ plst hpl
  have hwl := b14 _ _ wst hwl
  have hps := hps.imp fun v k h => h.tup tp
  clear kx tp b14 d13 hL0
  generalize upd GU st (.lst l) = H14 at d14 hL hrs hss ht hR hS hpl hwl hps ⊢
  refine ⟨_, rfl, by omega, by omega, ?_⟩
  refine for_range (lo := 0) (n := (25 - x).toNat) (fun i σ' H' => ∃ (t R S : Addr) (rs ss : List V) (L : List Lck) (F : Addr → Prop) (y : Option V), σ' = [some (.ref a), some (.ref st), some (.ref p), some (.ref v), some (.ref pl), some (.ref wl), some (.ref d0), some (.ref t), y] ∧ DrAt H' st scr ∧ LkAt K H' d0 L F i ∧ LEx L ∧ MdOk L ∧ LIn L ks ws ∧ L.length ≤ i ∧
      (H' pl = some (.lst ps) ∧ All2 (KyT H') ps ks ∧ H' wl = some (.lst (ws.map V.int))) ∧ H' t = some (.tup [.ref R, .ref S]) ∧ H' R = some (.lst rs) ∧ H' S = some (.lst ss) ∧ rs.length = ks.length ∧ ss.length = ws.length ∧ RowsI H' rs (hF L ks) ∧ HeldsI H' ss (gF L ws))
    ⟨t, R, S, rs, ss, [], F0, _, rfl, d14, hL, ex0, md0, li0, Nat.le_refl _, ⟨hpl, hps, hwl⟩, ht, hR, hS, rl, sl, hrs, hss⟩ ?_ ?_
  · rintro i σ' H1 hi ⟨t, R, S, rs, ss, L, F, y, rfl, d1, hL, ex, md, li, few, ⟨hpl, hps, hwl⟩, ht, hR, hS, rl, sl, hrs, hss⟩
    have i0 : atI [V.ref R, .ref S] (0 : Int) = some (.ref R) := rfl
    refine ⟨_, .inr (SqT.of ht), _, i0, d0, R, pl, wl, rs, ps, ks, ws, L, F, i, rfl, hL, by omega, hR, rl, hrs, hpl, hps, hwl, by omega, by omega, fun H2 s2 => ?_⟩
    have d2 := d1.new s2
    have hL2 := hL.same s2
    have hpl := s2 _ _ hpl
    have hwl := s2 _ _ hwl
    have hps := hps.imp fun v k h => h.same s2
    refine ⟨st, scr, d0, t, R, S, pl, wl, rs, ss, ps, ks, ws, L, F, i, rfl, d2, hL2, ex, md, li, few, by omega, s2 _ _ ht, s2 _ _ hR, s2 _ _ hS, rl, sl, hrs.same s2, hss.same s2, hpl, hps, hwl, plst, wst, wsl, kl, kn, wn, hk, fun H3 L' F' k3 d3 hL' ex' md' li' few' => ?_⟩
    have tp := k3.tups d2 hL2
    have hpl := k3.lst hL2 plst hpl
    have hwl := k3.lst hL2 wst hwl
    have hps := hps.imp fun v k h => h.tup tp
    refine ⟨d0, pl, wl, ps, ks, ws, L', F', i + 1, rfl, hL', ex', md', li', by omega, hpl, hps, hwl, by omega, by omega, kn, fun H4 t R S rs ss s4 ht hR hS rl sl hrs hss => ?_⟩
    exact ⟨t, R, S, rs, ss, L', F', _, rfl, d3.new s4, hL'.same s4, ex', md', li', few', ⟨s4 _ _ hpl, hps.imp fun v k h => h.same s4, s4 _ _ hwl⟩, ht, hR, hS, rl, sl, hrs, hss⟩
  · rintro σ' H1 _
    exact q H1
end
theorem all_mk {l : PySem.W.OpenLaw} {w : World} {K : PySem.W.Frag} {h : Heap} {mg : Str → Option Value} {fa : Addr} {a_LockTable : Addr} {f__law_state f__law_draw f__law_pick f__law_mixed f__law_number f__law_constant f__law_values f__law_names f__law_is_int f__law_same f__law_some f__law_one_place f_LockTable_holders f_LockTable_held f__law_seen f_LockTable_blockers f__law_blockers_right f__law_taken f_LockTable_free f_LockTable_free_all f__law_free_told f_LockTable_take f__law_step_right f_LockTable___init__ f_law : Addr} {od__law_state an__law_state : Option Addr} {sl__law_state : Array (Option Value)} {oc__law_state kV__law_state dc__law_state pm__law_state cd__law_state ct__law_state : Value} {od__law_draw an__law_draw : Option Addr} {sl__law_draw : Array (Option Value)} {oc__law_draw kV__law_draw dc__law_draw pm__law_draw cd__law_draw ct__law_draw : Value} {od__law_pick an__law_pick : Option Addr} {sl__law_pick : Array (Option Value)} {oc__law_pick kV__law_pick dc__law_pick pm__law_pick cd__law_pick ct__law_pick : Value} {od__law_mixed an__law_mixed : Option Addr} {sl__law_mixed : Array (Option Value)} {oc__law_mixed kV__law_mixed dc__law_mixed pm__law_mixed cd__law_mixed ct__law_mixed : Value} {od__law_number an__law_number : Option Addr} {sl__law_number : Array (Option Value)} {oc__law_number kV__law_number dc__law_number pm__law_number cd__law_number ct__law_number : Value} {od__law_constant an__law_constant : Option Addr} {sl__law_constant : Array (Option Value)} {oc__law_constant kV__law_constant dc__law_constant pm__law_constant cd__law_constant ct__law_constant : Value} {od__law_values an__law_values : Option Addr} {sl__law_values : Array (Option Value)} {oc__law_values kV__law_values dc__law_values pm__law_values cd__law_values ct__law_values : Value} {od__law_names an__law_names : Option Addr} {sl__law_names : Array (Option Value)} {oc__law_names kV__law_names dc__law_names pm__law_names cd__law_names ct__law_names : Value} {od__law_is_int an__law_is_int : Option Addr} {sl__law_is_int : Array (Option Value)} {oc__law_is_int kV__law_is_int dc__law_is_int pm__law_is_int cd__law_is_int ct__law_is_int : Value} {od__law_same an__law_same : Option Addr} {sl__law_same : Array (Option Value)} {oc__law_same kV__law_same dc__law_same pm__law_same cd__law_same ct__law_same : Value} {od__law_some an__law_some : Option Addr} {sl__law_some : Array (Option Value)} {oc__law_some kV__law_some dc__law_some pm__law_some cd__law_some ct__law_some : Value} {od__law_one_place an__law_one_place : Option Addr} {sl__law_one_place : Array (Option Value)} {oc__law_one_place kV__law_one_place dc__law_one_place pm__law_one_place cd__law_one_place ct__law_one_place : Value} {od_LockTable_holders an_LockTable_holders : Option Addr} {sl_LockTable_holders : Array (Option Value)} {oc_LockTable_holders kV_LockTable_holders dc_LockTable_holders pm_LockTable_holders cd_LockTable_holders ct_LockTable_holders : Value} {od_LockTable_held an_LockTable_held : Option Addr} {sl_LockTable_held : Array (Option Value)} {oc_LockTable_held kV_LockTable_held dc_LockTable_held pm_LockTable_held cd_LockTable_held ct_LockTable_held : Value} {od__law_seen an__law_seen : Option Addr} {sl__law_seen : Array (Option Value)} {oc__law_seen kV__law_seen dc__law_seen pm__law_seen cd__law_seen ct__law_seen : Value} {od_LockTable_blockers an_LockTable_blockers : Option Addr} {sl_LockTable_blockers : Array (Option Value)} {oc_LockTable_blockers kV_LockTable_blockers dc_LockTable_blockers pm_LockTable_blockers cd_LockTable_blockers ct_LockTable_blockers : Value} {od__law_blockers_right an__law_blockers_right : Option Addr} {sl__law_blockers_right : Array (Option Value)} {oc__law_blockers_right kV__law_blockers_right dc__law_blockers_right pm__law_blockers_right cd__law_blockers_right ct__law_blockers_right : Value} {od__law_taken an__law_taken : Option Addr} {sl__law_taken : Array (Option Value)} {oc__law_taken kV__law_taken dc__law_taken pm__law_taken cd__law_taken ct__law_taken : Value} {od_LockTable_free an_LockTable_free : Option Addr} {sl_LockTable_free : Array (Option Value)} {oc_LockTable_free kV_LockTable_free dc_LockTable_free pm_LockTable_free cd_LockTable_free ct_LockTable_free : Value} {od_LockTable_free_all an_LockTable_free_all : Option Addr} {sl_LockTable_free_all : Array (Option Value)} {oc_LockTable_free_all kV_LockTable_free_all dc_LockTable_free_all pm_LockTable_free_all cd_LockTable_free_all ct_LockTable_free_all : Value} {od__law_free_told an__law_free_told : Option Addr} {sl__law_free_told : Array (Option Value)} {oc__law_free_told kV__law_free_told dc__law_free_told pm__law_free_told cd__law_free_told ct__law_free_told : Value} {od_LockTable_take an_LockTable_take : Option Addr} {sl_LockTable_take : Array (Option Value)} {oc_LockTable_take kV_LockTable_take dc_LockTable_take pm_LockTable_take cd_LockTable_take ct_LockTable_take : Value} {od__law_step_right an__law_step_right : Option Addr} {sl__law_step_right : Array (Option Value)} {oc__law_step_right kV__law_step_right dc__law_step_right pm__law_step_right cd__law_step_right ct__law_step_right : Value} {od_LockTable___init__ an_LockTable___init__ : Option Addr} {sl_LockTable___init__ : Array (Option Value)} {oc_LockTable___init__ kV_LockTable___init__ dc_LockTable___init__ pm_LockTable___init__ cd_LockTable___init__ ct_LockTable___init__ : Value} {od_law an_law : Option Addr} {sl_law : Array (Option Value)} {oc_law kV_law dc_law pm_law cd_law ct_law : Value} (X : K.In h) (G : h.Ns mainGlobals mg) (hfa : mg "law" = some (.ref fa))
    (g_LockTable : PySem.W.nsIn K mainGlobals "LockTable" = some (some (.ref a_LockTable)))
    (pg_LockTable : PySem.W.plainGet K a_LockTable Str.empty = true)
    (hx_LockTable : PySem.W.hasDictIn K a_LockTable = true)
    (po_LockTable : PySem.W.plainOver K a_LockTable = true)
    (st_LockTable : PySem.W.findIn K (.ref a_LockTable) "__setattr__" = some (some (.builtin "object.__setattr__")))
    (rr_LockTable : PySem.W.readsIn K a_LockTable (.type "type") = true)
    (rg_LockTable : PySem.W.specialIn K (.ref a_LockTable) "__getattribute__" = some (some (.builtin "type.__getattribute__")))
    (mi_LockTable : PySem.W.makesIn K a_LockTable = true)
    (ko_LockTable : PySem.W.keepIn K (.ref a_LockTable) = true)
    (sf_LockTable : PySem.W.selfFirst K a_LockTable = true)
    (na_LockTable__modes : PySem.W.findIn K (.ref a_LockTable) "_modes" = some none)
    (na_LockTable__places : PySem.W.findIn K (.ref a_LockTable) "_places" = some none)
    (a__law_state : PySem.W.nsIn K mainGlobals "_law_state" = some (some (.ref f__law_state)))
    (l__law_state : K.lookup f__law_state = some ⟨oc__law_state, od__law_state, .func (PySem.W.fnOf "_law_state" "_law_state" (defArgs s__law_state) (defBody s__law_state) (defScope s__law_state) .none kV__law_state dc__law_state pm__law_state an__law_state cd__law_state ct__law_state), sl__law_state⟩)
    (c__law_state : PySem.W.codeIn K cd__law_state "_law_state" = true)
    (k__law_state : PySem.W.keepIn K (.ref f__law_state) = true)
    (a__law_draw : PySem.W.nsIn K mainGlobals "_law_draw" = some (some (.ref f__law_draw)))
    (l__law_draw : K.lookup f__law_draw = some ⟨oc__law_draw, od__law_draw, .func (PySem.W.fnOf "_law_draw" "_law_draw" (defArgs s__law_draw) (defBody s__law_draw) (defScope s__law_draw) .none kV__law_draw dc__law_draw pm__law_draw an__law_draw cd__law_draw ct__law_draw), sl__law_draw⟩)
    (c__law_draw : PySem.W.codeIn K cd__law_draw "_law_draw" = true)
    (k__law_draw : PySem.W.keepIn K (.ref f__law_draw) = true)
    (a__law_pick : PySem.W.nsIn K mainGlobals "_law_pick" = some (some (.ref f__law_pick)))
    (l__law_pick : K.lookup f__law_pick = some ⟨oc__law_pick, od__law_pick, .func (PySem.W.fnOf "_law_pick" "_law_pick" (defArgs s__law_pick) (defBody s__law_pick) (defScope s__law_pick) .none kV__law_pick dc__law_pick pm__law_pick an__law_pick cd__law_pick ct__law_pick), sl__law_pick⟩)
    (c__law_pick : PySem.W.codeIn K cd__law_pick "_law_pick" = true)
    (k__law_pick : PySem.W.keepIn K (.ref f__law_pick) = true)
    (a__law_mixed : PySem.W.nsIn K mainGlobals "_law_mixed" = some (some (.ref f__law_mixed)))
    (l__law_mixed : K.lookup f__law_mixed = some ⟨oc__law_mixed, od__law_mixed, .func (PySem.W.fnOf "_law_mixed" "_law_mixed" (defArgs s__law_mixed) (defBody s__law_mixed) (defScope s__law_mixed) .none kV__law_mixed dc__law_mixed pm__law_mixed an__law_mixed cd__law_mixed ct__law_mixed), sl__law_mixed⟩)
    (c__law_mixed : PySem.W.codeIn K cd__law_mixed "_law_mixed" = true)
    (k__law_mixed : PySem.W.keepIn K (.ref f__law_mixed) = true)
    (a__law_number : PySem.W.nsIn K mainGlobals "_law_number" = some (some (.ref f__law_number)))
    (l__law_number : K.lookup f__law_number = some ⟨oc__law_number, od__law_number, .func (PySem.W.fnOf "_law_number" "_law_number" (defArgs s__law_number) (defBody s__law_number) (defScope s__law_number) .none kV__law_number dc__law_number pm__law_number an__law_number cd__law_number ct__law_number), sl__law_number⟩)
    (c__law_number : PySem.W.codeIn K cd__law_number "_law_number" = true)
    (k__law_number : PySem.W.keepIn K (.ref f__law_number) = true)
    (a__law_constant : PySem.W.nsIn K mainGlobals "_law_constant" = some (some (.ref f__law_constant)))
    (l__law_constant : K.lookup f__law_constant = some ⟨oc__law_constant, od__law_constant, .func (PySem.W.fnOf "_law_constant" "_law_constant" (defArgs s__law_constant) (defBody s__law_constant) (defScope s__law_constant) .none kV__law_constant dc__law_constant pm__law_constant an__law_constant cd__law_constant ct__law_constant), sl__law_constant⟩)
    (c__law_constant : PySem.W.codeIn K cd__law_constant "_law_constant" = true)
    (k__law_constant : PySem.W.keepIn K (.ref f__law_constant) = true)
    (a__law_values : PySem.W.nsIn K mainGlobals "_law_values" = some (some (.ref f__law_values)))
    (l__law_values : K.lookup f__law_values = some ⟨oc__law_values, od__law_values, .func (PySem.W.fnOf "_law_values" "_law_values" (defArgs s__law_values) (defBody s__law_values) (defScope s__law_values) .none kV__law_values dc__law_values pm__law_values an__law_values cd__law_values ct__law_values), sl__law_values⟩)
    (c__law_values : PySem.W.codeIn K cd__law_values "_law_values" = true)
    (k__law_values : PySem.W.keepIn K (.ref f__law_values) = true)
    (a__law_names : PySem.W.nsIn K mainGlobals "_law_names" = some (some (.ref f__law_names)))
    (l__law_names : K.lookup f__law_names = some ⟨oc__law_names, od__law_names, .func (PySem.W.fnOf "_law_names" "_law_names" (defArgs s__law_names) (defBody s__law_names) (defScope s__law_names) .none kV__law_names dc__law_names pm__law_names an__law_names cd__law_names ct__law_names), sl__law_names⟩)
    (c__law_names : PySem.W.codeIn K cd__law_names "_law_names" = true)
    (k__law_names : PySem.W.keepIn K (.ref f__law_names) = true)
    (a__law_is_int : PySem.W.nsIn K mainGlobals "_law_is_int" = some (some (.ref f__law_is_int)))
    (l__law_is_int : K.lookup f__law_is_int = some ⟨oc__law_is_int, od__law_is_int, .func (PySem.W.fnOf "_law_is_int" "_law_is_int" (defArgs s__law_is_int) (defBody s__law_is_int) (defScope s__law_is_int) .none kV__law_is_int dc__law_is_int pm__law_is_int an__law_is_int cd__law_is_int ct__law_is_int), sl__law_is_int⟩)
    (c__law_is_int : PySem.W.codeIn K cd__law_is_int "_law_is_int" = true)
    (k__law_is_int : PySem.W.keepIn K (.ref f__law_is_int) = true)
    (a__law_same : PySem.W.nsIn K mainGlobals "_law_same" = some (some (.ref f__law_same)))
    (l__law_same : K.lookup f__law_same = some ⟨oc__law_same, od__law_same, .func (PySem.W.fnOf "_law_same" "_law_same" (defArgs s__law_same) (defBody s__law_same) (defScope s__law_same) .none kV__law_same dc__law_same pm__law_same an__law_same cd__law_same ct__law_same), sl__law_same⟩)
    (c__law_same : PySem.W.codeIn K cd__law_same "_law_same" = true)
    (k__law_same : PySem.W.keepIn K (.ref f__law_same) = true)
    (a__law_some : PySem.W.nsIn K mainGlobals "_law_some" = some (some (.ref f__law_some)))
    (l__law_some : K.lookup f__law_some = some ⟨oc__law_some, od__law_some, .func (PySem.W.fnOf "_law_some" "_law_some" (defArgs s__law_some) (defBody s__law_some) (defScope s__law_some) .none kV__law_some dc__law_some pm__law_some an__law_some cd__law_some ct__law_some), sl__law_some⟩)
    (c__law_some : PySem.W.codeIn K cd__law_some "_law_some" = true)
    (k__law_some : PySem.W.keepIn K (.ref f__law_some) = true)
    (a__law_one_place : PySem.W.nsIn K mainGlobals "_law_one_place" = some (some (.ref f__law_one_place)))
    (l__law_one_place : K.lookup f__law_one_place = some ⟨oc__law_one_place, od__law_one_place, .func (PySem.W.fnOf "_law_one_place" "_law_one_place" (defArgs s__law_one_place) (defBody s__law_one_place) (defScope s__law_one_place) .none kV__law_one_place dc__law_one_place pm__law_one_place an__law_one_place cd__law_one_place ct__law_one_place), sl__law_one_place⟩)
    (c__law_one_place : PySem.W.codeIn K cd__law_one_place "_law_one_place" = true)
    (k__law_one_place : PySem.W.keepIn K (.ref f__law_one_place) = true)
    (fa_LockTable_holders : PySem.W.findIn K (.ref a_LockTable) "holders" = some (some (.ref f_LockTable_holders)))
    (fn_LockTable_holders : PySem.W.isFn K (.ref f_LockTable_holders) = true)
    (l_LockTable_holders : K.lookup f_LockTable_holders = some ⟨oc_LockTable_holders, od_LockTable_holders, .func (PySem.W.fnOf "holders" "LockTable.holders" (defArgs s_LockTable_holders) (defBody s_LockTable_holders) (defScope s_LockTable_holders) .none kV_LockTable_holders dc_LockTable_holders pm_LockTable_holders an_LockTable_holders cd_LockTable_holders ct_LockTable_holders), sl_LockTable_holders⟩)
    (c_LockTable_holders : PySem.W.codeIn K cd_LockTable_holders "LockTable.holders" = true)
    (k_LockTable_holders : PySem.W.keepIn K (.ref f_LockTable_holders) = true)
    (fa_LockTable_held : PySem.W.findIn K (.ref a_LockTable) "held" = some (some (.ref f_LockTable_held)))
    (fn_LockTable_held : PySem.W.isFn K (.ref f_LockTable_held) = true)
    (l_LockTable_held : K.lookup f_LockTable_held = some ⟨oc_LockTable_held, od_LockTable_held, .func (PySem.W.fnOf "held" "LockTable.held" (defArgs s_LockTable_held) (defBody s_LockTable_held) (defScope s_LockTable_held) .none kV_LockTable_held dc_LockTable_held pm_LockTable_held an_LockTable_held cd_LockTable_held ct_LockTable_held), sl_LockTable_held⟩)
    (c_LockTable_held : PySem.W.codeIn K cd_LockTable_held "LockTable.held" = true)
    (k_LockTable_held : PySem.W.keepIn K (.ref f_LockTable_held) = true)
    (a__law_seen : PySem.W.nsIn K mainGlobals "_law_seen" = some (some (.ref f__law_seen)))
    (l__law_seen : K.lookup f__law_seen = some ⟨oc__law_seen, od__law_seen, .func (PySem.W.fnOf "_law_seen" "_law_seen" (defArgs s__law_seen) (defBody s__law_seen) (defScope s__law_seen) .none kV__law_seen dc__law_seen pm__law_seen an__law_seen cd__law_seen ct__law_seen), sl__law_seen⟩)
    (c__law_seen : PySem.W.codeIn K cd__law_seen "_law_seen" = true)
    (k__law_seen : PySem.W.keepIn K (.ref f__law_seen) = true)
    (fa_LockTable_blockers : PySem.W.findIn K (.ref a_LockTable) "blockers" = some (some (.ref f_LockTable_blockers)))
    (fn_LockTable_blockers : PySem.W.isFn K (.ref f_LockTable_blockers) = true)
    (l_LockTable_blockers : K.lookup f_LockTable_blockers = some ⟨oc_LockTable_blockers, od_LockTable_blockers, .func (PySem.W.fnOf "blockers" "LockTable.blockers" (defArgs s_LockTable_blockers) (defBody s_LockTable_blockers) (defScope s_LockTable_blockers) .none kV_LockTable_blockers dc_LockTable_blockers pm_LockTable_blockers an_LockTable_blockers cd_LockTable_blockers ct_LockTable_blockers), sl_LockTable_blockers⟩)
    (c_LockTable_blockers : PySem.W.codeIn K cd_LockTable_blockers "LockTable.blockers" = true)
    (k_LockTable_blockers : PySem.W.keepIn K (.ref f_LockTable_blockers) = true)
    (a__law_blockers_right : PySem.W.nsIn K mainGlobals "_law_blockers_right" = some (some (.ref f__law_blockers_right)))
    (l__law_blockers_right : K.lookup f__law_blockers_right = some ⟨oc__law_blockers_right, od__law_blockers_right, .func (PySem.W.fnOf "_law_blockers_right" "_law_blockers_right" (defArgs s__law_blockers_right) (defBody s__law_blockers_right) (defScope s__law_blockers_right) .none kV__law_blockers_right dc__law_blockers_right pm__law_blockers_right an__law_blockers_right cd__law_blockers_right ct__law_blockers_right), sl__law_blockers_right⟩)
    (c__law_blockers_right : PySem.W.codeIn K cd__law_blockers_right "_law_blockers_right" = true)
    (k__law_blockers_right : PySem.W.keepIn K (.ref f__law_blockers_right) = true)
    (a__law_taken : PySem.W.nsIn K mainGlobals "_law_taken" = some (some (.ref f__law_taken)))
    (l__law_taken : K.lookup f__law_taken = some ⟨oc__law_taken, od__law_taken, .func (PySem.W.fnOf "_law_taken" "_law_taken" (defArgs s__law_taken) (defBody s__law_taken) (defScope s__law_taken) .none kV__law_taken dc__law_taken pm__law_taken an__law_taken cd__law_taken ct__law_taken), sl__law_taken⟩)
    (c__law_taken : PySem.W.codeIn K cd__law_taken "_law_taken" = true)
    (k__law_taken : PySem.W.keepIn K (.ref f__law_taken) = true)
    (fa_LockTable_free : PySem.W.findIn K (.ref a_LockTable) "free" = some (some (.ref f_LockTable_free)))
    (fn_LockTable_free : PySem.W.isFn K (.ref f_LockTable_free) = true)
    (l_LockTable_free : K.lookup f_LockTable_free = some ⟨oc_LockTable_free, od_LockTable_free, .func (PySem.W.fnOf "free" "LockTable.free" (defArgs s_LockTable_free) (defBody s_LockTable_free) (defScope s_LockTable_free) .none kV_LockTable_free dc_LockTable_free pm_LockTable_free an_LockTable_free cd_LockTable_free ct_LockTable_free), sl_LockTable_free⟩)
    (c_LockTable_free : PySem.W.codeIn K cd_LockTable_free "LockTable.free" = true)
    (k_LockTable_free : PySem.W.keepIn K (.ref f_LockTable_free) = true)
    (fa_LockTable_free_all : PySem.W.findIn K (.ref a_LockTable) "free_all" = some (some (.ref f_LockTable_free_all)))
    (fn_LockTable_free_all : PySem.W.isFn K (.ref f_LockTable_free_all) = true)
    (l_LockTable_free_all : K.lookup f_LockTable_free_all = some ⟨oc_LockTable_free_all, od_LockTable_free_all, .func (PySem.W.fnOf "free_all" "LockTable.free_all" (defArgs s_LockTable_free_all) (defBody s_LockTable_free_all) (defScope s_LockTable_free_all) .none kV_LockTable_free_all dc_LockTable_free_all pm_LockTable_free_all an_LockTable_free_all cd_LockTable_free_all ct_LockTable_free_all), sl_LockTable_free_all⟩)
    (c_LockTable_free_all : PySem.W.codeIn K cd_LockTable_free_all "LockTable.free_all" = true)
    (k_LockTable_free_all : PySem.W.keepIn K (.ref f_LockTable_free_all) = true)
    (a__law_free_told : PySem.W.nsIn K mainGlobals "_law_free_told" = some (some (.ref f__law_free_told)))
    (l__law_free_told : K.lookup f__law_free_told = some ⟨oc__law_free_told, od__law_free_told, .func (PySem.W.fnOf "_law_free_told" "_law_free_told" (defArgs s__law_free_told) (defBody s__law_free_told) (defScope s__law_free_told) .none kV__law_free_told dc__law_free_told pm__law_free_told an__law_free_told cd__law_free_told ct__law_free_told), sl__law_free_told⟩)
    (c__law_free_told : PySem.W.codeIn K cd__law_free_told "_law_free_told" = true)
    (k__law_free_told : PySem.W.keepIn K (.ref f__law_free_told) = true)
    (fa_LockTable_take : PySem.W.findIn K (.ref a_LockTable) "take" = some (some (.ref f_LockTable_take)))
    (fn_LockTable_take : PySem.W.isFn K (.ref f_LockTable_take) = true)
    (l_LockTable_take : K.lookup f_LockTable_take = some ⟨oc_LockTable_take, od_LockTable_take, .func (PySem.W.fnOf "take" "LockTable.take" (defArgs s_LockTable_take) (defBody s_LockTable_take) (defScope s_LockTable_take) .none kV_LockTable_take dc_LockTable_take pm_LockTable_take an_LockTable_take cd_LockTable_take ct_LockTable_take), sl_LockTable_take⟩)
    (c_LockTable_take : PySem.W.codeIn K cd_LockTable_take "LockTable.take" = true)
    (k_LockTable_take : PySem.W.keepIn K (.ref f_LockTable_take) = true)
    (a__law_step_right : PySem.W.nsIn K mainGlobals "_law_step_right" = some (some (.ref f__law_step_right)))
    (l__law_step_right : K.lookup f__law_step_right = some ⟨oc__law_step_right, od__law_step_right, .func (PySem.W.fnOf "_law_step_right" "_law_step_right" (defArgs s__law_step_right) (defBody s__law_step_right) (defScope s__law_step_right) .none kV__law_step_right dc__law_step_right pm__law_step_right an__law_step_right cd__law_step_right ct__law_step_right), sl__law_step_right⟩)
    (c__law_step_right : PySem.W.codeIn K cd__law_step_right "_law_step_right" = true)
    (k__law_step_right : PySem.W.keepIn K (.ref f__law_step_right) = true)
    (fa_LockTable___init__ : PySem.W.findIn K (.ref a_LockTable) "__init__" = some (some (.ref f_LockTable___init__)))
    (fn_LockTable___init__ : PySem.W.isFn K (.ref f_LockTable___init__) = true)
    (l_LockTable___init__ : K.lookup f_LockTable___init__ = some ⟨oc_LockTable___init__, od_LockTable___init__, .func (PySem.W.fnOf "__init__" "LockTable.__init__" (defArgs s_LockTable___init__) (defBody s_LockTable___init__) (defScope s_LockTable___init__) .none kV_LockTable___init__ dc_LockTable___init__ pm_LockTable___init__ an_LockTable___init__ cd_LockTable___init__ ct_LockTable___init__), sl_LockTable___init__⟩)
    (c_LockTable___init__ : PySem.W.codeIn K cd_LockTable___init__ "LockTable.__init__" = true)
    (k_LockTable___init__ : PySem.W.keepIn K (.ref f_LockTable___init__) = true)
    (a_law : PySem.W.nsIn K mainGlobals "law" = some (some (.ref f_law)))
    (l_law : K.lookup f_law = some ⟨oc_law, od_law, .func (PySem.W.fnOf "law" "law" (defArgs s_law) (defBody s_law) (defScope s_law) .none kV_law dc_law pm_law an_law cd_law ct_law), sl_law⟩)
    (c_law : PySem.W.codeIn K cd_law "law" = true)
    (k_law : PySem.W.keepIn K (.ref f_law) = true)
    (z_bool : PySem.W.nsIn K mainGlobals "bool" = some none)
    (z_dict : PySem.W.nsIn K mainGlobals "dict" = some none)
    (z_int : PySem.W.nsIn K mainGlobals "int" = some none)
    (z_isinstance : PySem.W.nsIn K mainGlobals "isinstance" = some none)
    (z_len : PySem.W.nsIn K mainGlobals "len" = some none)
    (z_list : PySem.W.nsIn K mainGlobals "list" = some none)
    (z_range : PySem.W.nsIn K mainGlobals "range" = some none)
    (z_sorted : PySem.W.nsIn K mainGlobals "sorted" = some none)
    (z_str : PySem.W.nsIn K mainGlobals "str" = some none)
    (z_tuple : PySem.W.nsIn K mainGlobals "tuple" = some none)
    : ∃ fd : FuncData, (∀ (s : Shared) (v : Value), BindsTo s fd ⟨[v], []⟩ [("_law_script", v)]) ∧ ∀ base : Heap, K.In base → base.Ns mainGlobals mg → FnOk l.prog w K mg base CX0 80 fa fd ["_law_script"] (spLaw K) := by
  have e := hfa.symm.trans (PySem.W.mg_of X G a_law)
  cases e
  have T : Gs K mg a_LockTable := { z_bool := PySem.W.mg_none_of X G z_bool, z_dict := PySem.W.mg_none_of X G z_dict, z_int := PySem.W.mg_none_of X G z_int, z_isinstance := PySem.W.mg_none_of X G z_isinstance, z_len := PySem.W.mg_none_of X G z_len, z_list := PySem.W.mg_none_of X G z_list, z_range := PySem.W.mg_none_of X G z_range, z_sorted := PySem.W.mg_none_of X G z_sorted, z_str := PySem.W.mg_none_of X G z_str, z_tuple := PySem.W.mg_none_of X G z_tuple, g_LockTable := PySem.W.mg_of X G g_LockTable, n_LockTable := g_LockTable, cl_LockTable := ⟨pg_LockTable, hx_LockTable, po_LockTable, st_LockTable⟩, rd_LockTable := ⟨rr_LockTable, rg_LockTable⟩, na_LockTable__modes := na_LockTable__modes, na_LockTable__places := na_LockTable__places }
  have F__law_state := fun_mk (st := s__law_state) l__law_state c__law_state k__law_state
  have b__law_state := F__law_state.binds (ps := ["_law_script"]) fun _ _ _ _ _ _ us hl => match us, hl with | [_], _ => rfl
  have F__law_draw := fun_mk (st := s__law_draw) l__law_draw c__law_draw k__law_draw
  have b__law_draw := F__law_draw.binds (ps := ["_law_state_here", "_law_many"]) fun _ _ _ _ _ _ us hl => match us, hl with | [_, _], _ => rfl
  have F__law_pick := fun_mk (st := s__law_pick) l__law_pick c__law_pick k__law_pick
  have b__law_pick := F__law_pick.binds (ps := ["_law_state_here", "_law_row"]) fun _ _ _ _ _ _ us hl => match us, hl with | [_, _], _ => rfl
  have F__law_mixed := fun_mk (st := s__law_mixed) l__law_mixed c__law_mixed k__law_mixed
  have b__law_mixed := F__law_mixed.binds (ps := ["_law_state_here", "_law_row"]) fun _ _ _ _ _ _ us hl => match us, hl with | [_, _], _ => rfl
  have F__law_number := fun_mk (st := s__law_number) l__law_number c__law_number k__law_number
  have b__law_number := F__law_number.binds (ps := ["_law_state_here"]) fun _ _ _ _ _ _ us hl => match us, hl with | [_], _ => rfl
  have F__law_constant := fun_mk (st := s__law_constant) l__law_constant c__law_constant k__law_constant
  have b__law_constant := F__law_constant.binds (ps := ["_law_state_here"]) fun _ _ _ _ _ _ us hl => match us, hl with | [_], _ => rfl
  have F__law_values := fun_mk (st := s__law_values) l__law_values c__law_values k__law_values
  have b__law_values := F__law_values.binds (ps := ["_law_state_here"]) fun _ _ _ _ _ _ us hl => match us, hl with | [_], _ => rfl
  have F__law_names := fun_mk (st := s__law_names) l__law_names c__law_names k__law_names
  have b__law_names := F__law_names.binds (ps := ["_law_state_here", "_law_many"]) fun _ _ _ _ _ _ us hl => match us, hl with | [_, _], _ => rfl
  have F__law_is_int := fun_mk (st := s__law_is_int) l__law_is_int c__law_is_int k__law_is_int
  have b__law_is_int := F__law_is_int.binds (ps := ["_law_thing"]) fun _ _ _ _ _ _ us hl => match us, hl with | [_], _ => rfl
  have F__law_same := fun_mk (st := s__law_same) l__law_same c__law_same k__law_same
  have b__law_same := F__law_same.binds (ps := ["_law_actual", "_law_due"]) fun _ _ _ _ _ _ us hl => match us, hl with | [_, _], _ => rfl
  have F__law_some := fun_mk (st := s__law_some) l__law_some c__law_some k__law_some
  have b__law_some := F__law_some.binds (ps := ["_law_state_here", "_law_row", "_law_share"]) fun _ _ _ _ _ _ us hl => match us, hl with | [_, _, _], _ => rfl
  have F__law_one_place := fun_mk (st := s__law_one_place) l__law_one_place c__law_one_place k__law_one_place
  have b__law_one_place := F__law_one_place.binds (ps := ["_law_row", "_law_writers"]) fun _ _ _ _ _ _ us hl => match us, hl with | [_, _], _ => rfl
  have F_LockTable_holders := fun_mk (st := s_LockTable_holders) l_LockTable_holders c_LockTable_holders k_LockTable_holders
  have b_LockTable_holders := F_LockTable_holders.binds (ps := ["self", "place"]) fun _ _ _ _ _ _ us hl => match us, hl with | [_, _], _ => rfl
  have F_LockTable_held := fun_mk (st := s_LockTable_held) l_LockTable_held c_LockTable_held k_LockTable_held
  have b_LockTable_held := F_LockTable_held.binds (ps := ["self", "writer"]) fun _ _ _ _ _ _ us hl => match us, hl with | [_, _], _ => rfl
  have F__law_seen := fun_mk (st := s__law_seen) l__law_seen c__law_seen k__law_seen
  have b__law_seen := F__law_seen.binds (ps := ["_law_desk", "_law_places", "_law_writers"]) fun _ _ _ _ _ _ us hl => match us, hl with | [_, _, _], _ => rfl
  have F_LockTable_blockers := fun_mk (st := s_LockTable_blockers) l_LockTable_blockers c_LockTable_blockers k_LockTable_blockers
  have b_LockTable_blockers := F_LockTable_blockers.binds (ps := ["self", "place", "writer", "mode"]) fun _ _ _ _ _ _ us hl => match us, hl with | [_, _, _, _], _ => rfl
  have F__law_blockers_right := fun_mk (st := s__law_blockers_right) l__law_blockers_right c__law_blockers_right k__law_blockers_right
  have b__law_blockers_right := F__law_blockers_right.binds (ps := ["_law_desk", "_law_rows", "_law_places", "_law_writers"]) fun _ _ _ _ _ _ us hl => match us, hl with | [_, _, _, _], _ => rfl
  have F__law_taken := fun_mk (st := s__law_taken) l__law_taken c__law_taken k__law_taken
  have b__law_taken := F__law_taken.binds (ps := ["_law_row", "_law_writer", "_law_mode"]) fun _ _ _ _ _ _ us hl => match us, hl with | [_, _, _], _ => rfl
  have F_LockTable_free := fun_mk (st := s_LockTable_free) l_LockTable_free c_LockTable_free k_LockTable_free
  have b_LockTable_free := F_LockTable_free.binds (ps := ["self", "place", "writer"]) fun _ _ _ _ _ _ us hl => match us, hl with | [_, _, _], _ => rfl
  have F_LockTable_free_all := fun_mk (st := s_LockTable_free_all) l_LockTable_free_all c_LockTable_free_all k_LockTable_free_all
  have F__law_free_told := fun_mk (st := s__law_free_told) l__law_free_told c__law_free_told k__law_free_told
  have b__law_free_told := F__law_free_told.binds (ps := ["_law_desk", "_law_writer", "_law_but"]) fun _ _ _ _ _ _ us hl => match us, hl with | [_, _, _], _ => rfl
  have F_LockTable_take := fun_mk (st := s_LockTable_take) l_LockTable_take c_LockTable_take k_LockTable_take
  have b_LockTable_take := F_LockTable_take.binds (ps := ["self", "place", "writer", "mode"]) fun _ _ _ _ _ _ us hl => match us, hl with | [_, _, _, _], _ => rfl
  have F__law_step_right := fun_mk (st := s__law_step_right) l__law_step_right c__law_step_right k__law_step_right
  have b__law_step_right := F__law_step_right.binds (ps := ["_law_state_here", "_law_desk", "_law_before", "_law_places", "_law_writers"]) fun _ _ _ _ _ _ us hl => match us, hl with | [_, _, _, _, _], _ => rfl
  have F_LockTable___init__ := fun_mk (st := s_LockTable___init__) l_LockTable___init__ c_LockTable___init__ k_LockTable___init__
  have b_LockTable___init__ := F_LockTable___init__.binds (ps := ["self"]) fun _ _ _ _ _ _ us hl => match us, hl with | [_], _ => rfl
  have F_law := fun_mk (st := s_law) l_law c_law k_law
  have b_law := F_law.binds (ps := ["_law_script"]) fun _ _ _ _ _ _ us hl => match us, hl with | [_], _ => rfl
  refine ⟨PySem.W.fnOf "law" "law" (defArgs s_law) (defBody s_law) (defScope s_law) .none kV_law dc_law pm_law an_law cd_law ct_law, fun s v => .of_eq rfl, fun base _ _ => ?_⟩
  have C__law_state : Cal l.prog w K mg base CX0 1 "_law_state" f__law_state _ ["_law_script"] (sp__law_state K) := ⟨ok__law_state F__law_state T, b__law_state, k__law_state, PySem.W.mg_of X G a__law_state⟩
  have C__law_draw : Cal l.prog w K mg base CX0 1 "_law_draw" f__law_draw _ ["_law_state_here", "_law_many"] (sp__law_draw K) := ⟨ok__law_draw F__law_draw T, b__law_draw, k__law_draw, PySem.W.mg_of X G a__law_draw⟩
  have C__law_pick : Cal l.prog w K mg base CX0 2 "_law_pick" f__law_pick _ ["_law_state_here", "_law_row"] (sp__law_pick K) := ⟨ok__law_pick F__law_pick T C__law_draw, b__law_pick, k__law_pick, PySem.W.mg_of X G a__law_pick⟩
  have C__law_mixed : Cal l.prog w K mg base CX0 2 "_law_mixed" f__law_mixed _ ["_law_state_here", "_law_row"] (sp__law_mixed K) := ⟨ok__law_mixed F__law_mixed T C__law_draw, b__law_mixed, k__law_mixed, PySem.W.mg_of X G a__law_mixed⟩
  have C__law_number : Cal l.prog w K mg base CX0 2 "_law_number" f__law_number _ ["_law_state_here"] (sp__law_number K) := ⟨ok__law_number F__law_number T C__law_draw, b__law_number, k__law_number, PySem.W.mg_of X G a__law_number⟩
  have C__law_constant : Cal l.prog w K mg base CX0 3 "_law_constant" f__law_constant _ ["_law_state_here"] (sp__law_constant K) := ⟨ok__law_constant F__law_constant T C__law_number C__law_draw, b__law_constant, k__law_constant, PySem.W.mg_of X G a__law_constant⟩
  have C__law_values : Cal l.prog w K mg base CX0 4 "_law_values" f__law_values _ ["_law_state_here"] (sp__law_values K) := ⟨ok__law_values F__law_values T C__law_constant C__law_draw, b__law_values, k__law_values, PySem.W.mg_of X G a__law_values⟩
  have C__law_names : Cal l.prog w K mg base CX0 2 "_law_names" f__law_names _ ["_law_state_here", "_law_many"] (sp__law_names K) := ⟨ok__law_names F__law_names T C__law_draw, b__law_names, k__law_names, PySem.W.mg_of X G a__law_names⟩
  have C__law_is_int : Cal l.prog w K mg base CX0 1 "_law_is_int" f__law_is_int _ ["_law_thing"] (sp__law_is_int K) := ⟨ok__law_is_int F__law_is_int T, b__law_is_int, k__law_is_int, PySem.W.mg_of X G a__law_is_int⟩
  have C__law_same : Cal l.prog w K mg base CX0 26 "_law_same" f__law_same _ ["_law_actual", "_law_due"] (sp__law_same K) := ⟨ok__law_same F__law_same T C__law_is_int b__law_same k__law_same (PySem.W.mg_of X G a__law_same), b__law_same, k__law_same, PySem.W.mg_of X G a__law_same⟩
  have C__law_some : Cal l.prog w K mg base CX0 2 "_law_some" f__law_some _ ["_law_state_here", "_law_row", "_law_share"] (sp__law_some K) := ⟨ok__law_some F__law_some T C__law_draw, b__law_some, k__law_some, PySem.W.mg_of X G a__law_some⟩
  have C__law_one_place : Cal l.prog w K mg base CX0 2 "_law_one_place" f__law_one_place _ ["_law_row", "_law_writers"] (sp__law_one_place K) := ⟨ok__law_one_place F__law_one_place T C__law_is_int, b__law_one_place, k__law_one_place, PySem.W.mg_of X G a__law_one_place⟩
  have C_LockTable_holders : CalM l.prog w K mg base CX0 1 a_LockTable "holders" f_LockTable_holders _ ["self", "place"] (sp_LockTable_holders K) := ⟨⟨ok_LockTable_holders F_LockTable_holders T, b_LockTable_holders⟩, ⟨pg_LockTable, hx_LockTable, po_LockTable, st_LockTable⟩, ⟨fa_LockTable_holders, fn_LockTable_holders, k_LockTable_holders⟩⟩
  have C_LockTable_held : CalM l.prog w K mg base CX0 1 a_LockTable "held" f_LockTable_held _ ["self", "writer"] (sp_LockTable_held K) := ⟨⟨ok_LockTable_held F_LockTable_held T, b_LockTable_held⟩, ⟨pg_LockTable, hx_LockTable, po_LockTable, st_LockTable⟩, ⟨fa_LockTable_held, fn_LockTable_held, k_LockTable_held⟩⟩
  have C__law_seen : Cal l.prog w K mg base CX0 3 "_law_seen" f__law_seen _ ["_law_desk", "_law_places", "_law_writers"] (sp__law_seen K) := ⟨ok__law_seen F__law_seen T C__law_one_place C_LockTable_holders C_LockTable_held, b__law_seen, k__law_seen, PySem.W.mg_of X G a__law_seen⟩
  have C_LockTable_blockers : CalM l.prog w K mg base CX0 2 a_LockTable "blockers" f_LockTable_blockers _ ["self", "place", "writer", "mode"] (sp_LockTable_blockers K) := ⟨⟨ok_LockTable_blockers F_LockTable_blockers T C_LockTable_holders, b_LockTable_blockers⟩, ⟨pg_LockTable, hx_LockTable, po_LockTable, st_LockTable⟩, ⟨fa_LockTable_blockers, fn_LockTable_blockers, k_LockTable_blockers⟩⟩
  have C__law_blockers_right : Cal l.prog w K mg base CX0 27 "_law_blockers_right" f__law_blockers_right _ ["_law_desk", "_law_rows", "_law_places", "_law_writers"] (sp__law_blockers_right K) := ⟨ok__law_blockers_right F__law_blockers_right T C__law_same C_LockTable_blockers, b__law_blockers_right, k__law_blockers_right, PySem.W.mg_of X G a__law_blockers_right⟩
  have C__law_taken : Cal l.prog w K mg base CX0 1 "_law_taken" f__law_taken _ ["_law_row", "_law_writer", "_law_mode"] (sp__law_taken K) := ⟨ok__law_taken F__law_taken T, b__law_taken, k__law_taken, PySem.W.mg_of X G a__law_taken⟩
  have C_LockTable_free : CalM l.prog w K mg base CX0 1 a_LockTable "free" f_LockTable_free _ ["self", "place", "writer"] (sp_LockTable_free K) := ⟨⟨ok_LockTable_free F_LockTable_free T, b_LockTable_free⟩, ⟨pg_LockTable, hx_LockTable, po_LockTable, st_LockTable⟩, ⟨fa_LockTable_free, fn_LockTable_free, k_LockTable_free⟩⟩
  have C_LockTable_free_all : CalMV l.prog w K mg base CX0 2 a_LockTable "free_all" f_LockTable_free_all 2 (sp_LockTable_free_all K) := ⟨ok_LockTable_free_all F_LockTable_free_all T C_LockTable_free C_LockTable_held, ⟨pg_LockTable, hx_LockTable, po_LockTable, st_LockTable⟩, ⟨fa_LockTable_free_all, fn_LockTable_free_all, k_LockTable_free_all⟩⟩
  have C__law_free_told : Cal l.prog w K mg base CX0 3 "_law_free_told" f__law_free_told _ ["_law_desk", "_law_writer", "_law_but"] (sp__law_free_told K) := ⟨ok__law_free_told F__law_free_told T C_LockTable_free_all, b__law_free_told, k__law_free_told, PySem.W.mg_of X G a__law_free_told⟩
  have C_LockTable_take : CalM l.prog w K mg base CX0 3 a_LockTable "take" f_LockTable_take _ ["self", "place", "writer", "mode"] (sp_LockTable_take K) := ⟨⟨ok_LockTable_take F_LockTable_take T C_LockTable_blockers, b_LockTable_take⟩, ⟨pg_LockTable, hx_LockTable, po_LockTable, st_LockTable⟩, ⟨fa_LockTable_take, fn_LockTable_take, k_LockTable_take⟩⟩
  have C__law_step_right : Cal l.prog w K mg base CX0 27 "_law_step_right" f__law_step_right _ ["_law_state_here", "_law_desk", "_law_before", "_law_places", "_law_writers"] (sp__law_step_right K) := ⟨ok__law_step_right F__law_step_right T C__law_draw C__law_seen C__law_pick C__law_same C__law_taken C__law_some C__law_mixed C__law_free_told C_LockTable_blockers C_LockTable_take C_LockTable_free, b__law_step_right, k__law_step_right, PySem.W.mg_of X G a__law_step_right⟩
  have C_LockTable___init__ : CalI l.prog w K mg base CX0 1 "LockTable" a_LockTable f_LockTable___init__ _ ["self"] (sp_LockTable___init__ K) := ⟨⟨ok_LockTable___init__ F_LockTable___init__ T, b_LockTable___init__⟩, ⟨mi_LockTable, fa_LockTable___init__, fn_LockTable___init__, ko_LockTable⟩, PySem.W.mg_of X G g_LockTable⟩
  exact ok_law F_law T C__law_state C__law_names C__law_values C__law_mixed C__law_seen C__law_same C__law_draw C__law_blockers_right C__law_step_right C_LockTable___init__
theorem walk {l : PySem.W.OpenLaw} {q : Program} {loose : List Str} {XP : (Str → Option Value) → Heap → Prop} {YP : World → Heap → Prop} {d : DefRec} {K : Params → PySem.W.Frag} (hn : l.most = some 63) (hdf : d.params.defaults = [])
    (hY : ∀ (w : World) (h : Heap), YP w h → (K w.params).In h)
    (F : ∀ (w : World) (mg : Str → Option Value) (fa : Addr) (h : Heap), (K w.params).In h → h.Ns mainGlobals mg → mg d.name = some (.ref fa) →
      ∃ fd : FuncData, (∀ (s : Shared) (u : Value), BindsTo s fd ⟨[u], []⟩ [("_law_script", u)]) ∧ ∀ base : Heap, (K w.params).In base → base.Ns mainGlobals mg → FnOk l.prog w (K w.params) mg base CX0 80 fa fd ["_law_script"] (spLaw (K w.params))) :
    PySem.W.WalkO q loose XP YP l.row.toRowW d [] (fun f vs => PySem.call f vs) :=
  L2.walk_of (n := 63) (k := 80) (x := "_law_script") (CX := fun _ => CX0) (sp := fun w => spLaw (K w.params)) hn (by decide) hdf ⟨rfl, by decide, by decide⟩ hY F (fun _ _ a ns hl _ hS => ⟨a, ns, rfl, hS, hl, fun _ => rfl⟩) fun _ _ _ _ _ z => z
end K34
open PySem PySem.W PySem.Calls PyProof.Rows
namespace K34
open PySem PySem.W PyProof.Rows HeadRun El
set_option maxRecDepth 100000
set_option maxHeartbeats 0
abbrev tR : OpenRow := OpenLaw.row PySem.Challenge.rw_elseput_k34_whole_lock_table_excludes
def tq : Program := { PySem.Challenge.pw_elseput_k34_whole_lock_table_excludes with main := { PySem.Challenge.pw_elseput_k34_whole_lock_table_excludes.main with body := [topS 20] } }
def tl0 : List PySem.Str := [PySem.Str.ofString "__name__", PySem.Str.ofString "LockTable", PySem.Str.ofString "_law_state", PySem.Str.ofString "_law_draw", PySem.Str.ofString "_law_pick", PySem.Str.ofString "_law_mixed", PySem.Str.ofString "_law_number", PySem.Str.ofString "_law_constant", PySem.Str.ofString "_law_values", PySem.Str.ofString "_law_names", PySem.Str.ofString "_law_is_int", PySem.Str.ofString "_law_same", PySem.Str.ofString "_law_some", PySem.Str.ofString "_law_one_place", PySem.Str.ofString "_law_seen", PySem.Str.ofString "_law_blockers_right", PySem.Str.ofString "_law_taken", PySem.Str.ofString "_law_free_told", PySem.Str.ofString "_law_step_right"]
def tl : List PySem.Str := tl0
local macro_rules | `(tactic| o_head $H) => `(tactic| (exfalso; assumption))
theorem t0 (hf : False) : tR.Holds := by k_head
noncomputable def tas : List Nat := (t0.heap_1 (PySem.W.aWorld 1).params).map (·.1)
theorem tep (P : Params) : placesAre tas (t0.heap_1 P) = true := by kernel_rfl
theorem tek : ∀ P, tas = (t0.heap_1 P).map (·.1) := fun P => places_ok tas (t0.heap_1 P) (tep P)
theorem tA (w : World) : TopLooks tR tq tl 30000 w := by
  intro os
  kernel_rfl
theorem tC (w : World) : TopObjs tR t0.heap_1 tas 30000 w := by
  intro os
  kernel_rfl
end K34
set_option maxRecDepth 100000 in
set_option maxHeartbeats 0 in
theorem PySem.Challenge.cw_elseput_k34_whole_lock_table_excludes_holds : PySem.Challenge.rw_elseput_k34_whole_lock_table_excludes.Holds := by
  w_on; o_law
  refine El.head_tiny (r := K34.tR) (q := K34.tq) (loose := K34.tl) (K := K34.t0.heap_1) (as := K34.tas) (ek := K34.tek) 30000 K34.tA K34.tC (by kernel_rfl) (fun s => by kernel_rfl) (by rfl) (by rfl) (by rfl) (by rfl) (by first | assumption | decide +kernel) (by decide +kernel) ⟨rfl, rfl, rfl, rfl, rfl, by decide +kernel⟩ ?hw ?hc
  case hw => w_witness2
  case hc =>
  k_fill
  refine K34.walk (l := PySem.Challenge.rw_elseput_k34_whole_lock_table_excludes) rfl rfl (fun w h Y => PySem.W.kIn_of Y) ?F
  case F =>
    intro w mg fa h KX G hmg
    refine' K34.all_mk KX G hmg ?g_LockTable ?pg_LockTable ?hx_LockTable ?po_LockTable ?st_LockTable ?rr_LockTable ?rg_LockTable ?mi_LockTable ?ko_LockTable ?sf_LockTable ?na_LockTable__modes ?na_LockTable__places ?a__law_state ?l__law_state ?c__law_state ?k__law_state ?a__law_draw ?l__law_draw ?c__law_draw ?k__law_draw ?a__law_pick ?l__law_pick ?c__law_pick ?k__law_pick ?a__law_mixed ?l__law_mixed ?c__law_mixed ?k__law_mixed ?a__law_number ?l__law_number ?c__law_number ?k__law_number ?a__law_constant ?l__law_constant ?c__law_constant ?k__law_constant ?a__law_values ?l__law_values ?c__law_values ?k__law_values ?a__law_names ?l__law_names ?c__law_names ?k__law_names ?a__law_is_int ?l__law_is_int ?c__law_is_int ?k__law_is_int ?a__law_same ?l__law_same ?c__law_same ?k__law_same ?a__law_some ?l__law_some ?c__law_some ?k__law_some ?a__law_one_place ?l__law_one_place ?c__law_one_place ?k__law_one_place ?fa_LockTable_holders ?fn_LockTable_holders ?l_LockTable_holders ?c_LockTable_holders ?k_LockTable_holders ?fa_LockTable_held ?fn_LockTable_held ?l_LockTable_held ?c_LockTable_held ?k_LockTable_held ?a__law_seen ?l__law_seen ?c__law_seen ?k__law_seen ?fa_LockTable_blockers ?fn_LockTable_blockers ?l_LockTable_blockers ?c_LockTable_blockers ?k_LockTable_blockers ?a__law_blockers_right ?l__law_blockers_right ?c__law_blockers_right ?k__law_blockers_right ?a__law_taken ?l__law_taken ?c__law_taken ?k__law_taken ?fa_LockTable_free ?fn_LockTable_free ?l_LockTable_free ?c_LockTable_free ?k_LockTable_free ?fa_LockTable_free_all ?fn_LockTable_free_all ?l_LockTable_free_all ?c_LockTable_free_all ?k_LockTable_free_all ?a__law_free_told ?l__law_free_told ?c__law_free_told ?k__law_free_told ?fa_LockTable_take ?fn_LockTable_take ?l_LockTable_take ?c_LockTable_take ?k_LockTable_take ?a__law_step_right ?l__law_step_right ?c__law_step_right ?k__law_step_right ?fa_LockTable___init__ ?fn_LockTable___init__ ?l_LockTable___init__ ?c_LockTable___init__ ?k_LockTable___init__ ?a_law ?l_law ?c_law ?k_law ?z_bool ?z_dict ?z_int ?z_isinstance ?z_len ?z_list ?z_range ?z_sorted ?z_str ?z_tuple
    (case g_LockTable => k_is)
    (case pg_LockTable => k_is)
    (case hx_LockTable => k_is)
    (case po_LockTable => k_is)
    (case st_LockTable => k_is)
    (case rr_LockTable => k_is)
    (case rg_LockTable => k_is)
    (case mi_LockTable => k_is)
    (case ko_LockTable => k_is)
    (case sf_LockTable => k_is)
    (case na_LockTable__modes => k_is)
    (case na_LockTable__places => k_is)
    (case a__law_state => k_is)
    (case l__law_state => k_is)
    (case c__law_state => k_is)
    (case k__law_state => k_is)
    (case a__law_draw => k_is)
    (case l__law_draw => k_is)
    (case c__law_draw => k_is)
    (case k__law_draw => k_is)
    (case a__law_pick => k_is)
    (case l__law_pick => k_is)
    (case c__law_pick => k_is)
    (case k__law_pick => k_is)
    (case a__law_mixed => k_is)
    (case l__law_mixed => k_is)
    (case c__law_mixed => k_is)
    (case k__law_mixed => k_is)
    (case a__law_number => k_is)
    (case l__law_number => k_is)
    (case c__law_number => k_is)
    (case k__law_number => k_is)
    (case a__law_constant => k_is)
    (case l__law_constant => k_is)
    (case c__law_constant => k_is)
    (case k__law_constant => k_is)
    (case a__law_values => k_is)
    (case l__law_values => k_is)
    (case c__law_values => k_is)
    (case k__law_values => k_is)
    (case a__law_names => k_is)
    (case l__law_names => k_is)
    (case c__law_names => k_is)
    (case k__law_names => k_is)
    (case a__law_is_int => k_is)
    (case l__law_is_int => k_is)
    (case c__law_is_int => k_is)
    (case k__law_is_int => k_is)
    (case a__law_same => k_is)
    (case l__law_same => k_is)
    (case c__law_same => k_is)
    (case k__law_same => k_is)
    (case a__law_some => k_is)
    (case l__law_some => k_is)
    (case c__law_some => k_is)
    (case k__law_some => k_is)
    (case a__law_one_place => k_is)
    (case l__law_one_place => k_is)
    (case c__law_one_place => k_is)
    (case k__law_one_place => k_is)
    (case fa_LockTable_holders => k_is)
    (case fn_LockTable_holders => k_is)
    (case l_LockTable_holders => k_is)
    (case c_LockTable_holders => k_is)
    (case k_LockTable_holders => k_is)
    (case fa_LockTable_held => k_is)
    (case fn_LockTable_held => k_is)
    (case l_LockTable_held => k_is)
    (case c_LockTable_held => k_is)
    (case k_LockTable_held => k_is)
    (case a__law_seen => k_is)
    (case l__law_seen => k_is)
    (case c__law_seen => k_is)
    (case k__law_seen => k_is)
    (case fa_LockTable_blockers => k_is)
    (case fn_LockTable_blockers => k_is)
    (case l_LockTable_blockers => k_is)
    (case c_LockTable_blockers => k_is)
    (case k_LockTable_blockers => k_is)
    (case a__law_blockers_right => k_is)
    (case l__law_blockers_right => k_is)
    (case c__law_blockers_right => k_is)
    (case k__law_blockers_right => k_is)
    (case a__law_taken => k_is)
    (case l__law_taken => k_is)
    (case c__law_taken => k_is)
    (case k__law_taken => k_is)
    (case fa_LockTable_free => k_is)
    (case fn_LockTable_free => k_is)
    (case l_LockTable_free => k_is)
    (case c_LockTable_free => k_is)
    (case k_LockTable_free => k_is)
    (case fa_LockTable_free_all => k_is)
    (case fn_LockTable_free_all => k_is)
    (case l_LockTable_free_all => k_is)
    (case c_LockTable_free_all => k_is)
    (case k_LockTable_free_all => k_is)
    (case a__law_free_told => k_is)
    (case l__law_free_told => k_is)
    (case c__law_free_told => k_is)
    (case k__law_free_told => k_is)
    (case fa_LockTable_take => k_is)
    (case fn_LockTable_take => k_is)
    (case l_LockTable_take => k_is)
    (case c_LockTable_take => k_is)
    (case k_LockTable_take => k_is)
    (case a__law_step_right => k_is)
    (case l__law_step_right => k_is)
    (case c__law_step_right => k_is)
    (case k__law_step_right => k_is)
    (case fa_LockTable___init__ => k_is)
    (case fn_LockTable___init__ => k_is)
    (case l_LockTable___init__ => k_is)
    (case c_LockTable___init__ => k_is)
    (case k_LockTable___init__ => k_is)
    (case a_law => k_is)
    (case l_law => k_is)
    (case c_law => k_is)
    (case k_law => k_is)
    (case z_bool => k_is)
    (case z_dict => k_is)
    (case z_int => k_is)
    (case z_isinstance => k_is)
    (case z_len => k_is)
    (case z_list => k_is)
    (case z_range => k_is)
    (case z_sorted => k_is)
    (case z_str => k_is)
    (case z_tuple => k_is)
