import PyProof.Rows.All
import Wide.All
import OpenK.AllK
import Wide.FinOn
import HandS.ForMost
import HandS.Wide
import HandS.WideMore
import HandS.IsInst
import HandS.Flow
import HandS.Zip
import HandS.RaiseMore
import KE.GoesEnum
import HandS.ClsMeth
import HandS.Star
import KE.RegKIsAll
import HandS.Replace
import KE.SortKeyHeap
import HandS.SortKw
import HandS.DictComp
import HandS.ListItems
import HandS.SlotsOwn
import HandS.Sort
import HandS.Property
import PyProof.SumAny
import HandS.FStr
import HandS.Text
import HandS.ExcInit
import HandS.ExcField
import HandS.TryOnly
import HandS.WordsExc
import KE.KExcIs
import HandS.ExcIs
import HandS.MakeKwOnly
import PyProof.ListStr
import HandS.Conv
import PyProof.ExcBaseAll.ZeroDivisionError
import PyProof.ExcBaseAll.LookupError
import PyProof.ExcBaseAll.RuntimeError
import PySem.Challenge.RW_countsheld_k08_counts_divided
set_option Elab.async false
set_option linter.all false
set_option maxRecDepth 100000
set_option maxHeartbeats 40000000
namespace Y
open PySem L2
/-! assertions about the abstract heap, held side by side -/

/-- tuples stay -/
def Tx (H H' : Hp) : Prop := ∀ b xs, H b = some (.tup xs) → H' b = some (.tup xs)
theorem Tx.refl (H : Hp) : Tx H H := fun _ _ e => e
theorem Tx.trans {H H1 H2 : Hp} (a : Tx H H1) (b : Tx H1 H2) : Tx H H2 := fun x y e => b x y (a x y e)
theorem tx_new {H : Hp} {p : Addr} {o : HO} (h : H p = none) : Tx H (upd H p o) := fun b xs e => by
  rw [upd_ne (ne_of_none e h)]
  exact e
theorem tx_upd {H : Hp} {p : Addr} {o u : HO} (h : H p = some u) (hu : ∀ xs, u ≠ .tup xs) : Tx H (upd H p o) := fun b xs e => by
  rw [upd_ne (fun z => hu xs (by rw [z, h] at e; exact Option.some.inj e))]
  exact e

/-- an assertion: its own addresses, the heap -/
structure Asn where
  h : (Addr → Prop) → Hp → Prop
  al : ∀ f H, h f H → ∀ a, f a → ∃ o, H a = some o
  st : ∀ f H H', h f H → (∀ a, f a → H' a = H a) → Tx H H' → h f H'

inductive SepF : List Asn → (Addr → Prop) → Hp → Prop
  | nil {H} : SepF [] (fun _ => False) H
  | cons {A l f g H} : A.h f H → SepF l g H → (∀ a, f a → ¬ g a) → SepF (A :: l) (fun a => f a ∨ g a) H
def Sep (l : List Asn) (H : Hp) : Prop := ∃ g, SepF l g H

theorem SepF.al {l : List Asn} {g : Addr → Prop} {H : Hp} (S : SepF l g H) : ∀ a, g a → ∃ o, H a = some o := by
  induction S with
  | nil => intro a z; exact z.elim
  | cons h _ _ ih => intro a z; exact z.elim (fun z => Asn.al _ _ _ h a z) (ih a)
theorem SepF.st {l : List Asn} {g : Addr → Prop} {H H' : Hp} (S : SepF l g H) (k : ∀ a, g a → H' a = H a) (t : Tx H H') : SepF l g H' := by
  induction S with
  | nil => exact .nil
  | cons h _ d ih => exact .cons (Asn.st _ _ _ _ h (fun a z => k a (.inl z)) t) (ih (fun a z => k a (.inr z)) t) d
theorem SepF.iff {l : List Asn} {g g' : Addr → Prop} {H : Hp} (S : SepF l g H) (e : ∀ a, g a ↔ g' a) : SepF l g' H := by
  have : g = g' := funext fun a => propext (e a)
  rw [← this]; exact S
theorem Sep.nil {H : Hp} : Sep [] H := ⟨_, .nil⟩
/-- the i-th to the front -/
theorem SepF.pick {l : List Asn} {g : Addr → Prop} {H : Hp} (S : SepF l g H) : ∀ {i : Nat} {A : Asn}, l[i]? = some A → SepF (A :: l.eraseIdx i) g H := by
  induction S with
  | nil => intro i A e; cases e
  | @cons B l f g H h S d ih =>
    intro i A e
    cases i with
    | zero => cases e; exact .cons h S d
    | succ i =>
      have q := ih (i := i) (A := A) e
      cases q with
      | @cons _ _ f2 g2 _ h2 S2 d2 =>
        refine SepF.iff (.cons h2 (.cons h S2 (fun a z w => d a z (.inr w))) (fun a z w => w.elim (fun w => d a w (.inl z)) (d2 a z))) fun a => ?_
        constructor
        · rintro (z | z | z)
          · exact .inr (.inl z)
          · exact .inl z
          · exact .inr (.inr z)
        · rintro (z | z | z)
          · exact .inr (.inl z)
          · exact .inl z
          · exact .inr (.inr z)
theorem Sep.pick {l : List Asn} {H : Hp} {i : Nat} {A : Asn} (S : Sep l H) (e : l[i]? = some A) : Sep (A :: l.eraseIdx i) H := S.imp fun _ q => q.pick e
theorem SepF.put {B : Asn} {l : List Asn} {f : Addr → Prop} {H : Hp} : ∀ {i : Nat} {l0 : List Asn} {g : Addr → Prop}, SepF l0 g H → i < l.length → l0 = l.eraseIdx i → B.h f H → (∀ a, f a → ¬ g a) → ∃ g', SepF (l.set i B) g' H ∧ ∀ a, g' a ↔ (f a ∨ g a) := by
  induction l with
  | nil => intro i l0 g S hi e hB d; cases hi
  | cons A l ih =>
    intro i l0 g S hi e hB d
    cases i with
    | zero =>
      rw [e] at S
      exact ⟨_, .cons hB S d, fun _ => Iff.rfl⟩
    | succ i =>
      rw [e] at S
      cases S with
      | @cons _ _ f2 g2 _ h2 S2 d2 =>
        obtain ⟨g', S', hg⟩ := ih (i := i) S2 (Nat.lt_of_succ_lt_succ hi) rfl hB (fun a z w => d a z (.inr w))
        refine ⟨_, .cons h2 S' (fun a z w => ((hg a).1 w).elim (fun w => d a w (.inl z)) (d2 a z)), fun a => ?_⟩
        constructor
        · rintro (z | z)
          · exact .inr (.inl z)
          · exact ((hg a).1 z).elim .inl (fun z => .inr (.inr z))
        · rintro (z | z | z)
          · exact .inr ((hg a).2 (.inl z))
          · exact .inl z
          · exact .inr ((hg a).2 (.inr z))
theorem get_lt {α : Type} {l : List α} {i : Nat} {x : α} (e : l[i]? = some x) : i < l.length := (List.getElem?_eq_some_iff.mp e).1
/-- the i-th put back -/
theorem Sep.back {l : List Asn} {H : Hp} {i : Nat} {A B : Asn} (e : l[i]? = some A) (S : Sep (B :: l.eraseIdx i) H) : Sep (l.set i B) H := by
  obtain ⟨g, S⟩ := S
  cases S with
  | cons h S d =>
    obtain ⟨g', q, _⟩ := SepF.put (l := l) (i := i) S (get_lt e) rfl h d
    exact ⟨g', q⟩
theorem Sep.tail {A : Asn} {l : List Asn} {H : Hp} (S : Sep (A :: l) H) : Sep l H := by
  obtain ⟨g, S⟩ := S
  cases S with
  | cons _ S _ => exact ⟨_, S⟩
theorem Sep.head {A : Asn} {l : List Asn} {H : Hp} (S : Sep (A :: l) H) : ∃ f, A.h f H := by
  obtain ⟨g, S⟩ := S
  cases S with
  | cons h _ _ => exact ⟨_, h⟩
theorem Sep.get {l : List Asn} {H : Hp} {i : Nat} {A : Asn} (S : Sep l H) (e : l[i]? = some A) : ∃ f, A.h f H := (S.pick e).head
theorem Sep.mono {A B : Asn} {l : List Asn} {H : Hp} (k : ∀ f, A.h f H → ∃ f', B.h f' H ∧ ∀ a, f' a → f a) (S : Sep (A :: l) H) : Sep (B :: l) H := by
  obtain ⟨g, S⟩ := S
  cases S with
  | cons h S d =>
    obtain ⟨f', h', hf⟩ := k _ h
    exact ⟨_, .cons h' S fun a z => d a (hf a z)⟩
def reord : List Nat → List Asn → List Asn
  | [], l => l
  | i :: is, l => match l[i]? with
    | some A => A :: reord is (l.eraseIdx i)
    | none => []
theorem SepF.reord : ∀ (is : List Nat) {l : List Asn} {g : Addr → Prop} {H : Hp}, SepF l g H → ∃ g', SepF (Y.reord is l) g' H ∧ ∀ a, g' a → g a
  | [], l, g, H, S => ⟨g, S, fun _ z => z⟩
  | i :: is, l, g, H, S => by
    unfold Y.reord
    cases e : l[i]? with
    | none => exact ⟨_, .nil, fun _ z => z.elim⟩
    | some A =>
      have q := S.pick e
      cases q with
      | cons h S d =>
        obtain ⟨g', S', k⟩ := SepF.reord is S
        exact ⟨_, .cons h S' (fun a z w => d a z (k a w)), fun a z => z.elim .inl fun z => .inr (k a z)⟩
theorem Sep.reord {l : List Asn} {H : Hp} (S : Sep l H) (is : List Nat) : Sep (Y.reord is l) H := by
  obtain ⟨g, S⟩ := S
  obtain ⟨g', S', _⟩ := S.reord is
  exact ⟨g', S'⟩
/-- nothing owned: what is true for good -/
def pure' (P : Prop) : Asn := ⟨fun f _ => P ∧ ∀ a, ¬ f a, fun _ _ h a z => (h.2 a z).elim, fun _ _ _ h _ _ => h⟩

/-- an object that may change -/
def At (p : Addr) (o : HO) : Asn := ⟨fun f H => H p = some o ∧ ∀ a, f a ↔ a = p, fun _ _ h a z => ⟨o, by rw [(h.2 a).1 z]; exact h.1⟩, fun _ _ _ h k _ => ⟨by rw [k p ((h.2 p).2 rfl)]; exact h.1, h.2⟩⟩
/-- a tuple -/
def Tp (p : Addr) (xs : List V) : Asn := ⟨fun f H => H p = some (.tup xs) ∧ ∀ a, ¬ f a, fun _ _ h a z => (h.2 a z).elim, fun _ _ _ h _ t => ⟨t _ _ h.1, h.2⟩⟩
section
variable {l : List Asn} {H : Hp} {i : Nat} {p : Addr} {o o' : HO} {xs : List V} {A : Asn}
theorem Sep.at (S : Sep l H) (e : l[i]? = some (At p o)) : H p = some o := by
  obtain ⟨f, h⟩ := S.get e
  exact h.1
theorem Sep.tp (S : Sep l H) (e : l[i]? = some (Tp p xs)) : H p = some (.tup xs) := by
  obtain ⟨f, h⟩ := S.get e
  exact h.1
theorem Sep.new (S : Sep l H) (h : H p = none) : Sep (At p o :: l) (upd H p o) := by
  obtain ⟨g, S⟩ := S
  have hg : ∀ a, g a → a ≠ p := fun a z q => by
    obtain ⟨u, e⟩ := S.al a z
    rw [q, h] at e
    cases e
  exact ⟨_, .cons (f := fun a => a = p) ⟨upd_same, fun _ => Iff.rfl⟩ (S.st (fun a z => upd_ne (hg a z)) (tx_new h)) fun a z w => hg a w z⟩
theorem Sep.newT (S : Sep l H) (h : H p = none) : Sep (Tp p xs :: l) (upd H p (.tup xs)) := by
  obtain ⟨g, S⟩ := S
  have hg : ∀ a, g a → a ≠ p := fun a z q => by
    obtain ⟨u, e⟩ := S.al a z
    rw [q, h] at e
    cases e
  exact ⟨_, .cons (f := fun _ => False) ⟨upd_same, fun _ z => z⟩ (S.st (fun a z => upd_ne (hg a z)) (tx_new h)) fun a z => z.elim⟩
theorem Sep.upd0 (S : Sep (At p o :: l) H) (ho : ∀ xs, o ≠ .tup xs) : Sep (At p o' :: l) (upd H p o') := by
  obtain ⟨g, S⟩ := S
  cases S with
  | @cons _ _ f g _ h S d =>
    have hg : ∀ a, g a → a ≠ p := fun a z q => d a ((h.2 a).2 q) z
    exact ⟨_, .cons (f := f) ⟨upd_same, h.2⟩ (S.st (fun a z => upd_ne (hg a z)) (tx_upd h.1 ho)) d⟩
theorem Sep.upd (S : Sep l H) (e : l[i]? = some (At p o)) (ho : ∀ xs, o ≠ .tup xs) : Sep (l.set i (At p o')) (upd H p o') :=
  Sep.back e ((S.pick e).upd0 ho)
end
/-- several for one -/
def Pk (l : List Asn) : Asn := ⟨fun f H => SepF l f H, fun _ _ h => h.al, fun _ _ _ h k t => h.st k t⟩
theorem SepF.app : ∀ {l m : List Asn} {f g : Addr → Prop} {H : Hp}, SepF l f H → SepF m g H → (∀ a, f a → ¬ g a) → SepF (l ++ m) (fun a => f a ∨ g a) H
  | _, m, _, g, H, .nil, T, _ => T.iff fun a => ⟨.inr, fun z => z.elim (fun z => z.elim) id⟩
  | _, m, _, g, H, .cons h S d, T, k => SepF.iff (.cons h (S.app T fun a z => k a (.inr z)) fun a z w => w.elim (d a z) (k a (.inl z))) fun a => by
      constructor
      · rintro (z | z | z)
        · exact .inl (.inl z)
        · exact .inl (.inr z)
        · exact .inr z
      · rintro ((z | z) | z)
        · exact .inl z
        · exact .inr (.inl z)
        · exact .inr (.inr z)
theorem SepF.cut : ∀ {l m : List Asn} {g : Addr → Prop} {H : Hp}, SepF (l ++ m) g H → ∃ f1 f2, SepF l f1 H ∧ SepF m f2 H ∧ (∀ a, f1 a → ¬ f2 a) ∧ ∀ a, g a ↔ (f1 a ∨ f2 a)
  | [], m, g, H, S => ⟨_, g, .nil, S, fun _ z => z.elim, fun a => ⟨.inr, fun z => z.elim (fun z => z.elim) id⟩⟩
  | A :: l, m, g, H, S0 => by
    have S1 : SepF (A :: (l ++ m)) g H := S0
    cases S1 with
    | @cons _ _ f g2 _ h S d =>
      obtain ⟨f1, f2, S1, S2, k, e⟩ := SepF.cut S
      refine ⟨_, f2, .cons h S1 (fun a z w => d a z ((e a).2 (.inl w))), S2, fun a z w => z.elim (fun z => d a z ((e a).2 (.inr w))) (fun z => k a z w), fun a => ?_⟩
      show (f a ∨ g2 a) ↔ _
      rw [e a]
      constructor
      · rintro (z | z | z)
        · exact .inl (.inl z)
        · exact .inl (.inr z)
        · exact .inr z
      · rintro ((z | z) | z)
        · exact .inl z
        · exact .inr (.inl z)
        · exact .inr (.inr z)
theorem Sep.open' {l m : List Asn} {H : Hp} (S : Sep (Pk l :: m) H) : Sep (l ++ m) H := by
  obtain ⟨g, S⟩ := S
  cases S with
  | cons h S d => exact ⟨_, SepF.app h S d⟩
theorem Sep.close' {l m : List Asn} {H : Hp} (S : Sep (l ++ m) H) : Sep (Pk l :: m) H := by
  obtain ⟨g, S⟩ := S
  obtain ⟨f1, f2, S1, S2, k, e⟩ := S.cut
  exact ⟨_, .cons S1 S2 k⟩
/-- for some x -/
def Exs {α : Type} (A : α → Asn) : Asn := ⟨fun f H => ∃ x, (A x).h f H, fun _ _ ⟨x, h⟩ => (A x).al _ _ h, fun _ _ _ ⟨x, h⟩ k t => ⟨x, (A x).st _ _ _ h k t⟩⟩
theorem Sep.ex {α : Type} {A : α → Asn} {l : List Asn} {H : Hp} (S : Sep (Exs A :: l) H) : ∃ x, Sep (A x :: l) H := by
  obtain ⟨g, S⟩ := S
  cases S with
  | cons h S d =>
    obtain ⟨x, h⟩ := h
    exact ⟨x, _, .cons h S d⟩
theorem Sep.ex' {α : Type} {A : α → Asn} {l : List Asn} {H : Hp} {x : α} (S : Sep (A x :: l) H) : Sep (Exs A :: l) H :=
  Sep.mono (fun f h => ⟨f, ⟨x, h⟩, fun _ z => z⟩) S
theorem Sep.pure {P : Prop} {l : List Asn} {H : Hp} (S : Sep (pure' P :: l) H) : P ∧ Sep l H := ⟨by obtain ⟨f, h⟩ := S.head; exact h.1, S.tail⟩
theorem Sep.pure_in {P : Prop} {l : List Asn} {H : Hp} (p : P) (S : Sep l H) : Sep (pure' P :: l) H := by
  obtain ⟨g, S⟩ := S
  exact ⟨_, .cons (f := fun _ => False) ⟨p, fun _ z => z⟩ S fun _ z => z.elim⟩

/-! operations by the values they meet; one step of a reading a lemma -/

/-! ### rules by or -/
section
variable {X : Cx}
theorem OpR.or {f : Value → Value → Sem Value} {r1 r2 : R2} (h1 : OpR X f r1) (h2 : OpR X f r2) : OpR X f (fun x y H Q => r1 x y H Q ∨ r2 x y H Q) :=
  fun pins s σ H x y v u Q I rx ry h => h.elim (h1 pins s σ H x y v u Q I rx ry) (h2 pins s σ H x y v u Q I rx ry)
theorem CallR.or {f : Value} {r1 r2 : List V → Hp → VK → Prop} (h1 : CallR X f r1) (h2 : CallR X f r2) : CallR X f (fun x H Q => r1 x H Q ∨ r2 x H Q) :=
  fun pins s σ H x u Q I rx h => h.elim (h1 pins s σ H x u Q I rx) (h2 pins s σ H x u Q I rx)
theorem SlR.or {r1 r2 : V → Option Int → Option Int → Hp → VK → Prop} (h1 : SlR X r1) (h2 : SlR X r2) : SlR X (fun x a b H Q => r1 x a b H Q ∨ r2 x a b H Q) := by
  intro pins s σ H
  intros
  rename_i h
  rcases h with h | h
  · apply h1 <;> assumption
  · apply h2 <;> assumption
end
def rAddS : R2 := fun x y H Q => ∃ i j, x = V.str i ∧ y = V.str j ∧ i.length + j.length ≤ sizeLine ∧ Q (V.str (i ++ j)) H
def gAdd : R2 := fun x y H Q => rI0 (fun i j => .int (i + j)) x y H Q ∨ (rAddS x y H Q ∨ rCat x y H Q)
def gMinus : R2 := rI0 fun i j => .int (i - j)
def gMul : R2 := fun x y H Q => rI CMul (fun i j => .int (i * j)) x y H Q ∨ rI CMulW (fun i j => .int (i * j)) x y H Q
def gDiv : R2 := rI CDivW fun i j => .int (i / j)
def gMod : R2 := rI (fun _ j => j ≠ 0) fun i j => .int (i.fmod j)
def gPow : R2 := rI CPow fun i j => .int (i ^ j.toNat)
def gNeg : V → Hp → VK → Prop := rU fun i => .int (-i)
def gEq (K : PySem.W.Frag) : R2 := fun x y H Q => rEq x y H Q ∨ rEqD K x y H Q
def gNe (K : PySem.W.Frag) : R2 := fun x y H Q => rNe x y H Q ∨ rNeD K x y H Q
def gLt : R2 := rI0 fun i j => .bl (decide (i < j))
def gLe : R2 := rI0 fun i j => .bl (decide (i ≤ j))
def gGt : R2 := rI0 fun i j => .bl (decide (j < i))
def gGe : R2 := rI0 fun i j => .bl (decide (j ≤ i))
def rInT (neg : Bool) : R2 := fun x y H Q => ∃ c z, x = V.str ⟨#[c]⟩ ∧ y = V.str z ∧ Q (.bl (if neg then !decide (c ∈ z.cps.toList) else decide (c ∈ z.cps.toList))) H
def gIn (K : PySem.W.Frag) (neg : Bool) : R2 := fun x y H Q => rIn K neg x y H Q ∨ rInT neg x y H Q
def gIs : R2 := fun x y H Q => y = .non ∧ Q (.bl (decide (x = .non))) H
def gIsN : R2 := fun x y H Q => y = .non ∧ Q (.bl (!decide (x = .non))) H
section
variable {X : Cx}
theorem op_gAdd : OpR X (binaryOp .Add) gAdd := OpR.or op_add (OpR.or op_add_str op_cat)
theorem op_gSub : OpR X (binaryOp .Sub) gMinus := op_sub
theorem op_gMul : OpR X (binaryOp .Mult) gMul := OpR.or op_mul op_mulW
theorem op_gDiv : OpR X (binaryOp .FloorDiv) gDiv := op_fdivW
theorem op_gMod : OpR X (binaryOp .Mod) gMod := op_modN
theorem op_gPow : OpR X (binaryOp .Pow) gPow := op_pow
theorem un_gNeg : UnR X (unaryOp .USub) gNeg := un_neg
theorem op_gEq {K : PySem.W.Frag} (hK : X.K = K) (hu : X.A.units + 64 < cLine) : OpR X (compareOp .Eq) (gEq K) := by rw [← hK]; exact OpR.or op_eq (op_eqD hu)
theorem op_gNe {K : PySem.W.Frag} (hK : X.K = K) (hu : X.A.units + 64 < cLine) : OpR X (compareOp .NotEq) (gNe K) := by rw [← hK]; exact OpR.or op_ne (op_neD hu)
theorem op_gLt : OpR X (compareOp .Lt) gLt := op_lt
theorem op_gLe : OpR X (compareOp .LtE) gLe := op_le
theorem op_gGt : OpR X (compareOp .Gt) gGt := op_gt
theorem op_gGe : OpR X (compareOp .GtE) gGe := op_ge
theorem op_gIn {K : PySem.W.Frag} (hK : X.K = K) : OpR X (compareOp .In) (gIn K false) := by rw [← hK]; exact OpR.or op_in_seq op_in_sign
theorem op_gNotIn {K : PySem.W.Frag} (hK : X.K = K) : OpR X (compareOp .NotIn) (gIn K true) := by rw [← hK]; exact OpR.or op_notIn_seq op_notIn_sign
theorem op_gIs : OpR X (compareOp .Is) gIs := op_isN
theorem op_gIsN : OpR X (compareOp .IsNot) gIsN := op_notN
end
def gSl (K : PySem.W.Frag) : V → Option Int → Option Int → Hp → VK → Prop := fun x lo hi H Q => rSlL K x lo hi H Q ∨ rSlS x lo hi H Q
theorem sl_g {X : Cx} {K : PySem.W.Frag} (hK : X.K = K) : SlR X (gSl K) := by rw [← hK]; exact SlR.or sl_list sl_str
theorem ix_g {X : Cx} {K : PySem.W.Frag} (hK : X.K = K) : IxR X (rIx K) := by rw [← hK]; exact ix_seq
def tTr (K : PySem.W.Frag) (ta : TE) : TT := fun σ H Q => ta σ H fun x H' => ∃ k, TruV K x H' k ∧ Q k H'
theorem pt_tr {X : Cx} {K : PySem.W.Frag} (hK : X.K = K) {a : Expr} {ta : TE} (h : PE X a ta) (hw : ∀ whole : Sem Value, isTrue a X.env whole = (do let v ← whole; standAt a.pos; holding [v] (truthy v)) := by intro _; rfl) : PT X a (tTr K ta) := by rw [← hK]; exact pt_truth h hw
def gLen (K : PySem.W.Frag) : List V → Hp → VK → Prop := fun xs H Q => (∃ x n, xs = [x] ∧ LenV K x H n ∧ Q (.int n) H) ∨ ∃ d kvs, xs = [.ref d] ∧ H d = some (.dK kvs) ∧ Q (.int kvs.length) H

/-! ### steps -/
section
variable {σ : St} {H : Hp} {i j : Nat} {v x y z : V} {ta tb tc te : TE} {t u : TT} {tr : TA} {Q : VK} {QB : Bool → Hp → Prop} {QA : List V → Hp → Prop} {b : Bool} {r r' : R2} {K : PySem.W.Frag} {m n : Int} {D : Ends} {ts tz : TS} {l : List Asn} {p : Addr} {xs ys : List V}
theorem r_var (h : σ[i]? = some (some v)) (q : Q v H) : tVar i σ H Q := ⟨v, h, q⟩
theorem r_c (q : Q v H) : tC v σ H Q := q
theorem r_op (q : ta σ H fun x H1 => tb σ H1 fun y H2 => r x y H2 Q) : tOp r ta tb σ H Q := q
theorem r_un {r : V → Hp → VK → Prop} (q : ta σ H fun x H1 => r x H1 Q) : tUn r ta σ H Q := q
theorem r_test (q : te σ H fun x H' => ∃ k, x = .bl k ∧ QB k H') : tTest te σ H QB := q
theorem r_B (q : te σ H fun x H' => ∃ k, x = .bl k ∧ QB k H') : tB te σ H QB := q
theorem r_and (q : t σ H fun c H1 => if c = true then u σ H1 QB else QB false H1) : tAnd t u σ H QB := q
theorem r_or (q : t σ H fun c H1 => if c = true then QB true H1 else u σ H1 QB) : tOr t u σ H QB := q
theorem r_not (q : t σ H fun c H1 => QB (!c) H1) : tNot t σ H QB := q
theorem r_andV (q : ta σ H fun x H1 => ∃ c, x = .bl c ∧ if c = true then tb σ H1 Q else Q (.bl false) H1) : tAndV ta tb σ H Q := q
theorem r_orV (q : ta σ H fun x H1 => ∃ c, x = .bl c ∧ if c = true then Q (.bl true) H1 else tb σ H1 Q) : tOrV ta tb σ H Q := q
theorem r_notV (q : ta σ H fun x H1 => ∃ c, x = .bl c ∧ Q (.bl (!c)) H1) : tNotV ta σ H Q := q
theorem r_isbl {P : Bool → Prop} (q : P b) : ∃ k, V.bl b = .bl k ∧ P k := ⟨b, rfl, q⟩
theorem r_ifE (q : t σ H fun c H1 => if c = true then ta σ H1 Q else tb σ H1 Q) : tIf t ta tb σ H Q := q
theorem r_nil (q : QA [] H) : tNil σ H QA := q
theorem r_cons (q : te σ H fun x H1 => tr σ H1 fun xs H2 => QA (x :: xs) H2) : tCons te tr σ H QA := q
theorem r_if {A B : Prop} (h1 : b = true → A) (h2 : b = false → B) : if b = true then A else B := by
  cases b with
  | true => rw [if_pos rfl]; exact h1 rfl
  | false => rw [if_neg Bool.false_ne_true]; exact h2 rfl
theorem r_ifT {A B : Prop} (h : b = true) (h1 : A) : if b = true then A else B := by rw [if_pos h]; exact h1
theorem r_ifF {A B : Prop} (h : b = false) (h1 : B) : if b = true then A else B := by rw [h, if_neg Bool.false_ne_true]; exact h1
theorem r_ifD {c A B : Prop} [Decidable c] (h1 : c → A) (h2 : ¬ c → B) : if decide c = true then A else B := r_if (fun e => h1 (of_decide_eq_true e)) (fun e => h2 (of_decide_eq_false e))
theorem r_ifN {c A B : Prop} [Decidable c] (h1 : ¬ c → A) (h2 : c → B) : if (!decide c) = true then A else B := r_if (fun e => h1 (of_decide_eq_false (by simpa using e))) (fun e => h2 (of_decide_eq_true (by simpa using e)))
theorem r_ifDT {c A B : Prop} [Decidable c] (h : c) (h1 : A) : if decide c = true then A else B := r_ifD (fun _ => h1) fun e => absurd h e
theorem r_ifDF {c A B : Prop} [Decidable c] (h : ¬ c) (h1 : B) : if decide c = true then A else B := r_ifD (fun e => absurd e h) fun _ => h1
theorem r_ifNT {c A B : Prop} [Decidable c] (h : ¬ c) (h1 : A) : if (!decide c) = true then A else B := r_ifN (fun _ => h1) fun e => absurd e h
theorem r_ifNF {c A B : Prop} [Decidable c] (h : c) (h1 : B) : if (!decide c) = true then A else B := r_ifN (fun e => absurd h e) fun _ => h1
theorem r_ifPT {c A B : Prop} [Decidable c] (h : c) (h1 : A) : if c then A else B := by rw [if_pos h]; exact h1
theorem r_chain (q : ta σ H fun x H1 => tb σ H1 fun y H2 => r x y H2 fun z H3 => ∃ k, z = .bl k ∧ (if k = true then tc σ H3 fun w' H4 => r' y w' H4 Q else Q (.bl false) H3)) : tChain r r' ta tb tc σ H Q := q
theorem r_call {sp : Sp} {E : XK} (q : tr σ H fun vs H1 => sp vs H1 Q E) : tCall sp [] E tr σ H Q := by
  have e : (fun (vs : List V) (H1 : Hp) => sp (vs ++ []) H1 Q E) = fun vs H1 => sp vs H1 Q E := by
    funext vs H1
    rw [List.append_nil]
  show tr σ H fun vs H1 => sp (vs ++ []) H1 Q E
  rw [e]
  exact q
theorem r_callD {sp : Sp} {dvs : List V} {E : XK} (q : tr σ H fun vs H1 => sp (vs ++ dvs) H1 Q E) : tCall sp dvs E tr σ H Q := q
theorem r_CB {r : List V → Hp → VK → Prop} (q : tr σ H fun vs H1 => r vs H1 Q) : tCB r tr σ H Q := q
/-- new lists, tuples -/
theorem r_lst (S : ∀ xs H1, QA xs H1 → Prop) : True := trivial
theorem new_eq {H1 : Hp} {o : HO} (S : Sep l H) (hp : H p = none) (hg : upd H p o = H1) : Sep (At p o :: l) H1 := by rw [← hg]; exact S.new hp
theorem newT_eq {H1 : Hp} (S : Sep l H) (hp : H p = none) (hg : upd H p (.tup xs) = H1) : Sep (Tp p xs :: l) H1 := by rw [← hg]; exact S.newT hp
theorem a_lst (S : Sep l H) (hz : xs.length ≤ sizeLine) (k : ∀ p H', Sep (At p (.lst xs) :: l) H' → Q (.ref p) H') : xs.length ≤ sizeLine ∧ ∀ p, H p = none → Q (.ref p) (upd H p (.lst xs)) :=
  ⟨hz, fun p hp => k p _ (S.new hp)⟩
theorem a_tup (S : Sep l H) (hz : xs.length ≤ sizeLine) (k : ∀ p H', Sep (Tp p xs :: l) H' → Q (.ref p) H') : xs.length ≤ sizeLine ∧ ∀ p, H p = none → Q (.ref p) (upd H p (.tup xs)) :=
  ⟨hz, fun p hp => k p _ (S.newT hp)⟩
theorem a_new {o : HO} (S : Sep l H) (k : ∀ p H', Sep (At p o :: l) H' → Q (.ref p) H') : ∀ p, H p = none → Q (.ref p) (upd H p o) := fun p hp => k p _ (S.new hp)
theorem a_newT (S : Sep l H) (k : ∀ p H', Sep (Tp p xs :: l) H' → Q (.ref p) H') : ∀ p, H p = none → Q (.ref p) (upd H p (.tup xs)) := fun p hp => k p _ (S.newT hp)
theorem r_tup (q : tr σ H fun xs H1 => xs.length ≤ sizeLine ∧ ∀ p, H1 p = none → Q (.ref p) (upd H1 p (.tup xs))) : tTup tr σ H Q := q
theorem r_list (q : tr σ H fun xs H1 => xs.length ≤ sizeLine ∧ ∀ p, H1 p = none → Q (.ref p) (upd H1 p (.lst xs))) : tLst tr σ H Q := q
/-! statements -/
section
variable {nx bk ct : St → Hp → Prop} {rt : VK} {tu : TS}
theorem r_seq (q : ts ⟨tz ⟨nx, rt, bk, ct⟩, rt, bk, ct⟩ σ H) : tSeq ts tz ⟨nx, rt, bk, ct⟩ σ H := q
theorem r_next (q : nx σ H) : tNext ⟨nx, rt, bk, ct⟩ σ H := q
theorem r_brk (q : bk σ H) : tBreak ⟨nx, rt, bk, ct⟩ σ H := q
theorem r_cnt (q : ct σ H) : tCont ⟨nx, rt, bk, ct⟩ σ H := q
theorem r_ret (q : te σ H rt) : tRet te ⟨nx, rt, bk, ct⟩ σ H := q
theorem r_retN (q : rt .non H) : tRetN ⟨nx, rt, bk, ct⟩ σ H := q
theorem r_drop (q : te σ H fun _ H1 => nx σ H1) : tDrop te ⟨nx, rt, bk, ct⟩ σ H := q
theorem r_ifS (q : t σ H fun b H1 => if b = true then ts D σ H1 else tu D σ H1) : tIfS t ts tu D σ H := q
theorem r_asg {g : TG} (q : te σ H fun x H1 => g x σ H1 nx) : tAsg te g ⟨nx, rt, bk, ct⟩ σ H := q
theorem r_aug {ti : TIp} (h : σ[i]? = some (some x)) (q : te σ H fun y H1 => ti x y H1 fun z H2 => nx (σ.set i (some z)) H2) : tAug i te ti ⟨nx, rt, bk, ct⟩ σ H := ⟨x, h, q⟩
end
theorem g_name {R : St → Hp → Prop} (q : R (σ.set i (some v)) H) : gName i v σ H R := q
theorem g_tup {k : Nat} {tg : TGs} {R : St → Hp → Prop} {e : Nat} (S : Sep l H) (hi : l[e]? = some (Tp p xs)) (hk : xs.length = k) (q : tg xs σ H R) : gTup K k tg (.ref p) σ H R := ⟨p, xs, rfl, SqT.of (S.tp hi), hk, q⟩
theorem g_cons {g : TG} {gs : TGs} {R : St → Hp → Prop} (q : g v σ H fun σ' H' => gs xs σ' H' R) : gCons g gs (v :: xs) σ H R := ⟨v, xs, rfl, q⟩
theorem g_nil {R : St → Hp → Prop} (q : R σ H) : gNil [] σ H R := ⟨rfl, q⟩
/-! operations on values -/
theorem o_add (q : Q (.int (m + n)) H) : gAdd (.int m) (.int n) H Q := .inl ⟨m, n, rfl, rfl, q⟩
theorem o_addS {s w : Str} (hz : s.length + w.length ≤ sizeLine) (q : Q (.str (s ++ w)) H) : gAdd (.str s) (.str w) H Q := .inr (.inl ⟨s, w, rfl, rfl, hz, q⟩)
theorem o_cat {p' : Addr} {e e' : Nat} (S : Sep l H) (hi : l[e]? = some (At p (.lst xs))) (hj : l[e']? = some (At p' (.lst ys))) (hz : xs.length + ys.length ≤ sizeLine) (k : ∀ d H', Sep (At d (.lst (xs ++ ys)) :: l) H' → Q (.ref d) H') : gAdd (.ref p) (.ref p') H Q :=
  .inr (.inr ⟨p, p', xs, ys, rfl, rfl, S.at hi, S.at hj, hz, fun d hd => k d _ (S.new hd)⟩)
theorem o_sub (q : Q (.int (m - n)) H) : gMinus (.int m) (.int n) H Q := ⟨m, n, rfl, rfl, q⟩
theorem o_mulL (h : -(2 ^ 64) < m ∧ m < 2 ^ 64) (q : Q (.int (m * n)) H) : gMul (.int m) (.int n) H Q := .inl ⟨m, n, rfl, rfl, .inl h, q⟩
theorem o_mulR (h : -(2 ^ 64) < n ∧ n < 2 ^ 64) (q : Q (.int (m * n)) H) : gMul (.int m) (.int n) H Q := .inl ⟨m, n, rfl, rfl, .inr h, q⟩
theorem o_mulW (h : CMulW m n) (q : Q (.int (m * n)) H) : gMul (.int m) (.int n) H Q := .inr ⟨m, n, rfl, rfl, h, q⟩
theorem o_div (h0 : 0 < n) (h1 : n < 10 ^ 40) (q : Q (.int (m / n)) H) : gDiv (.int m) (.int n) H Q := ⟨m, n, rfl, rfl, wide_div (b := 200) h0 (by
  have e : (10 : Int) ^ 40 < 2 ^ 200 := by decide
  have e2 : (n.natAbs : Int) = n := by omega
  have e3 : ((2 ^ 200 : Nat) : Int) = 2 ^ 200 := by decide
  omega) (by decide) (by decide), q⟩
theorem o_mod (h : 0 < n) (k : ∀ r : Int, r = m % n → 0 ≤ r → r < n → Q (.int r) H) : gMod (.int m) (.int n) H Q := ⟨m, n, rfl, rfl, by omega, by
  have e : m.fmod n = m % n := Int.fmod_eq_emod_of_nonneg m (by omega)
  show Q (.int (m.fmod n)) H
  rw [e]; exact k _ rfl (Int.emod_nonneg m (by omega)) (Int.emod_lt_of_pos m h)⟩
theorem o_pow {k : Nat} (h : 0 ≤ n ∧ n ≤ 1000000 ∧ m.natAbs < 2 ^ 64) (e : n.toNat = k) (q : Q (.int (m ^ k)) H) : gPow (.int m) (.int n) H Q := ⟨m, n, rfl, rfl, h, by rw [← e] at q; exact q⟩
theorem o_neg (q : Q (.int (-n)) H) : gNeg (.int n) H Q := ⟨n, rfl, q⟩
theorem o_lt (q : Q (.bl (decide (m < n))) H) : gLt (.int m) (.int n) H Q := ⟨m, n, rfl, rfl, q⟩
theorem o_le (q : Q (.bl (decide (m ≤ n))) H) : gLe (.int m) (.int n) H Q := ⟨m, n, rfl, rfl, q⟩
theorem o_gt (q : Q (.bl (decide (n < m))) H) : gGt (.int m) (.int n) H Q := ⟨m, n, rfl, rfl, q⟩
theorem o_ge (q : Q (.bl (decide (n ≤ m))) H) : gGe (.int m) (.int n) H Q := ⟨m, n, rfl, rfl, q⟩
theorem d_int {m n : Int} : decide (V.int m = V.int n) = decide (m = n) := by
  by_cases h : m = n
  · rw [h, decide_eq_true rfl, decide_eq_true rfl]
  · rw [decide_eq_false h, decide_eq_false (fun z => h (V.int.inj z))]
theorem d_str {m n : Str} : decide (V.str m = V.str n) = decide (m = n) := by
  by_cases h : m = n
  · rw [h, decide_eq_true rfl, decide_eq_true rfl]
  · rw [decide_eq_false h, decide_eq_false (fun z => h (V.str.inj z))]
theorem d_bl {m n : Bool} : decide (V.bl m = V.bl n) = decide (m = n) := by
  by_cases h : m = n
  · rw [h, decide_eq_true rfl, decide_eq_true rfl]
  · rw [decide_eq_false h, decide_eq_false (fun z => h (V.bl.inj z))]
theorem o_eqI (q : Q (.bl (decide (m = n))) H) : gEq K (.int m) (.int n) H Q := .inl ⟨rfl, by rw [d_int]; exact q⟩
theorem o_eqS {m n : Str} (q : Q (.bl (decide (m = n))) H) : gEq K (.str m) (.str n) H Q := .inl ⟨rfl, by rw [d_str]; exact q⟩
theorem o_eqB {m n : Bool} (q : Q (.bl (decide (m = n))) H) : gEq K (.bl m) (.bl n) H Q := .inl ⟨rfl, by rw [d_bl]; exact q⟩
theorem o_neI (q : Q (.bl (!decide (m = n))) H) : gNe K (.int m) (.int n) H Q := .inl ⟨rfl, by rw [d_int]; exact q⟩
theorem o_neS {m n : Str} (q : Q (.bl (!decide (m = n))) H) : gNe K (.str m) (.str n) H Q := .inl ⟨rfl, by rw [d_str]; exact q⟩
theorem o_neB {m n : Bool} (q : Q (.bl (!decide (m = n))) H) : gNe K (.bl m) (.bl n) H Q := .inl ⟨rfl, by rw [d_bl]; exact q⟩
theorem o_is (q : Q (.bl (decide (x = .non))) H) : gIs x .non H Q := ⟨rfl, q⟩
theorem o_isN (q : Q (.bl (!decide (x = .non))) H) : gIsN x .non H Q := ⟨rfl, q⟩
/-! places -/
theorem x_lst {e : Nat} (S : Sep l H) (hi : l[e]? = some (At p (.lst xs))) (a : atI xs n = some v) (q : Q v H) : rIx K (.ref p) (.int n) H Q := .inl ⟨p, xs, n, v, rfl, rfl, SqL.of (S.at hi), a, q⟩
theorem atI_in {α : Type} {as : List α} (h0 : 0 ≤ n) (h1 : n < as.length) : ∃ y, as[n.toNat]? = some y ∧ atI as n = some y := by
  have hl : n.toNat < as.length := by omega
  refine ⟨as[n.toNat], List.getElem?_eq_getElem hl, ?_⟩
  unfold atI ixN
  rw [if_pos h0, if_pos h1]
  exact List.getElem?_eq_getElem hl
theorem x_lstM {e : Nat} {α : Type} {f : α → V} {as : List α} (S : Sep l H) (hi : l[e]? = some (At p (.lst (as.map f)))) (h0 : 0 ≤ n) (h1 : n < as.length) (k : ∀ y, as[n.toNat]? = some y → Q (f y) H) : rIx K (.ref p) (.int n) H Q := by
  obtain ⟨y, e1, e2⟩ := atI_in h0 h1
  refine x_lst (v := f y) S hi ?_ (k y e1)
  obtain ⟨z, e3, e4⟩ := atI_in (as := as.map f) h0 (by rw [List.length_map]; exact h1)
  rw [List.getElem?_map, e1] at e3
  rw [e4, ← e3]
  rfl
theorem x_lstA {e : Nat} (S : Sep l H) (hi : l[e]? = some (At p (.lst xs))) (h0 : 0 ≤ n) (h1 : n < xs.length) (k : ∀ v, xs[n.toNat]? = some v → Q v H) : rIx K (.ref p) (.int n) H Q := by
  obtain ⟨y, e1, e2⟩ := atI_in h0 h1
  exact x_lst S hi e2 (k y e1)
theorem x_tup {e : Nat} (S : Sep l H) (hi : l[e]? = some (Tp p xs)) (a : atI xs n = some v) (q : Q v H) : rIx K (.ref p) (.int n) H Q := .inr (.inl ⟨p, xs, n, v, rfl, rfl, SqT.of (S.tp hi), a, q⟩)
theorem x_str {z : Str} {c : Nat} (hz : z.length ≤ sizeLine) (a : atI z.cps.toList n = some c) (q : Q (.str ⟨#[c]⟩) H) : rIx K (.str z) (.int n) H Q := .inr (.inr ⟨z, n, c, rfl, rfl, hz, a, q⟩)
theorem g_sub {to ti : TE} {tset : TSet} {R : St → Hp → Prop} (q : to σ H fun o H1 => ti σ H1 fun i H2 => tset o i v H2 fun H3 => R σ H3) : gSub to ti tset v σ H R := q
theorem w_lst {e : Nat} {R : Hp → Prop} {jn : Nat} (S : Sep l H) (hi : l[e]? = some (At p (.lst xs))) (a : ixN xs.length n = some jn) (k : ∀ H', Sep (l.set e (At p (.lst (xs.set jn v)))) H' → R H') : rSetL (.ref p) (.int n) v H R :=
  ⟨p, xs, n, jn, rfl, rfl, S.at hi, a, k _ (S.upd hi fun _ z => nomatch z)⟩
/-! has -/
theorem has0 {A : Asn} : (A :: l)[0]? = some A := rfl
theorem hasS {A B : Asn} (h : l[i]? = some A) : (B :: l)[i + 1]? = some A := h
theorem set_same {α : Type} {x : α} : ∀ {l : List α} {i : Nat}, l[i]? = some x → l.set i x = l
  | [], _, e => by cases e
  | a :: l, 0, e => by cases e; rfl
  | a :: l, i + 1, e => by
    show a :: l.set i x = a :: l
    rw [set_same (l := l) (i := i) e]
theorem Sep.backS {A : Asn} (e : l[i]? = some A) (S : Sep (A :: l.eraseIdx i) H) : Sep l H := by
  have q := Sep.back e S
  rw [set_same e] at q
  exact q
theorem Sep.fr1 {A B : Asn} (S : Sep (A :: B :: l) H) : Sep (B :: A :: l) H := S.pick (i := 1) rfl
theorem Sep.dr1 {A B : Asn} (S : Sep (A :: B :: l) H) : Sep (A :: l) H := S.fr1.tail
theorem Sep.bk1 {A B : Asn} (S : Sep (A :: B :: l) H) : Sep (B :: A :: l) H := S.reord [1]
theorem Sep.fr2 {A B C : Asn} (S : Sep (A :: B :: C :: l) H) : Sep (C :: A :: B :: l) H := S.pick (i := 2) rfl
theorem Sep.dr2 {A B C : Asn} (S : Sep (A :: B :: C :: l) H) : Sep (A :: B :: l) H := S.fr2.tail
theorem Sep.bk2 {A B C : Asn} (S : Sep (A :: B :: C :: l) H) : Sep (B :: C :: A :: l) H := S.reord [1, 1]
theorem Sep.fr3 {A B C D : Asn} (S : Sep (A :: B :: C :: D :: l) H) : Sep (D :: A :: B :: C :: l) H := S.pick (i := 3) rfl
theorem Sep.dr3 {A B C D : Asn} (S : Sep (A :: B :: C :: D :: l) H) : Sep (A :: B :: C :: l) H := S.fr3.tail
theorem Sep.bk3 {A B C D : Asn} (S : Sep (A :: B :: C :: D :: l) H) : Sep (B :: C :: D :: A :: l) H := S.reord [1, 1, 1]
theorem Sep.fr4 {A B C D E : Asn} (S : Sep (A :: B :: C :: D :: E :: l) H) : Sep (E :: A :: B :: C :: D :: l) H := S.pick (i := 4) rfl
theorem Sep.dr4 {A B C D E : Asn} (S : Sep (A :: B :: C :: D :: E :: l) H) : Sep (A :: B :: C :: D :: l) H := S.fr4.tail
theorem Sep.bk4 {A B C D E : Asn} (S : Sep (A :: B :: C :: D :: E :: l) H) : Sep (B :: C :: D :: E :: A :: l) H := S.reord [1, 1, 1, 1]
theorem Sep.fr5 {A B C D E F : Asn} (S : Sep (A :: B :: C :: D :: E :: F :: l) H) : Sep (F :: A :: B :: C :: D :: E :: l) H := S.pick (i := 5) rfl
theorem Sep.dr5 {A B C D E F : Asn} (S : Sep (A :: B :: C :: D :: E :: F :: l) H) : Sep (A :: B :: C :: D :: E :: l) H := S.fr5.tail
theorem Sep.bk5 {A B C D E F : Asn} (S : Sep (A :: B :: C :: D :: E :: F :: l) H) : Sep (B :: C :: D :: E :: F :: A :: l) H := S.reord [1, 1, 1, 1, 1]
theorem Sep.fr6 {A B C D E F G : Asn} (S : Sep (A :: B :: C :: D :: E :: F :: G :: l) H) : Sep (G :: A :: B :: C :: D :: E :: F :: l) H := S.pick (i := 6) rfl
theorem Sep.dr6 {A B C D E F G : Asn} (S : Sep (A :: B :: C :: D :: E :: F :: G :: l) H) : Sep (A :: B :: C :: D :: E :: F :: l) H := S.fr6.tail
theorem Sep.bk6 {A B C D E F G : Asn} (S : Sep (A :: B :: C :: D :: E :: F :: G :: l) H) : Sep (B :: C :: D :: E :: F :: G :: A :: l) H := S.reord [1, 1, 1, 1, 1, 1]
theorem Sep.fr7 {A B C D E F G J : Asn} (S : Sep (A :: B :: C :: D :: E :: F :: G :: J :: l) H) : Sep (J :: A :: B :: C :: D :: E :: F :: G :: l) H := S.pick (i := 7) rfl
theorem Sep.dr7 {A B C D E F G J : Asn} (S : Sep (A :: B :: C :: D :: E :: F :: G :: J :: l) H) : Sep (A :: B :: C :: D :: E :: F :: G :: l) H := S.fr7.tail
theorem Sep.bk7 {A B C D E F G J : Asn} (S : Sep (A :: B :: C :: D :: E :: F :: G :: J :: l) H) : Sep (B :: C :: D :: E :: F :: G :: J :: A :: l) H := S.reord [1, 1, 1, 1, 1, 1, 1]
theorem Sep.fr8 {A B C D E F G J L : Asn} (S : Sep (A :: B :: C :: D :: E :: F :: G :: J :: L :: l) H) : Sep (L :: A :: B :: C :: D :: E :: F :: G :: J :: l) H := S.pick (i := 8) rfl
theorem Sep.dr8 {A B C D E F G J L : Asn} (S : Sep (A :: B :: C :: D :: E :: F :: G :: J :: L :: l) H) : Sep (A :: B :: C :: D :: E :: F :: G :: J :: l) H := S.fr8.tail
theorem Sep.bk8 {A B C D E F G J L : Asn} (S : Sep (A :: B :: C :: D :: E :: F :: G :: J :: L :: l) H) : Sep (B :: C :: D :: E :: F :: G :: J :: L :: A :: l) H := S.reord [1, 1, 1, 1, 1, 1, 1, 1]
/-! builtins -/
def gInt : List V → Hp → VK → Prop := fun xs H Q => (∃ i, xs = [.int i] ∧ Q (.int i) H) ∨ ∃ k, xs = [.bl k] ∧ Q (.int (if k = true then 1 else 0)) H
theorem call_gInt {X : Cx} : CallR X (.type "int") gInt := call_int1
theorem c_int (q : Q (.int n) H) : gInt [.int n] H Q := .inl ⟨n, rfl, q⟩
def gAbs : List V → Hp → VK → Prop := fun xs H Q => ∃ i, xs = [V.int i] ∧ Q (V.int (if i < 0 then -i else i)) H
theorem call_gAbs {X : Cx} : CallR X (.builtin "abs") gAbs := call_abs
theorem c_abs (q : Q (.int (n.natAbs : Int)) H) : gAbs [.int n] H Q := ⟨n, rfl, by
  have e : (if n < 0 then -n else n) = (n.natAbs : Int) := by split <;> omega
  rw [e]; exact q⟩
theorem c_lenL {e : Nat} (S : Sep l H) (hi : l[e]? = some (At p (.lst xs))) (q : Q (.int (xs.length : Nat)) H) : gLen K [.ref p] H Q := .inl ⟨_, _, rfl, .inl ⟨xs, SqL.of (S.at hi), rfl⟩, q⟩
theorem c_lenM {e : Nat} {α : Type} {f : α → V} {as : List α} (S : Sep l H) (hi : l[e]? = some (At p (.lst (as.map f)))) (q : Q (.int (as.length : Nat)) H) : gLen K [.ref p] H Q := c_lenL S hi (by rw [List.length_map]; exact q)
theorem c_lenS {z : Str} (hz : z.length ≤ sizeLine) (q : Q (.int (z.length : Nat)) H) : gLen K [.str z] H Q := .inl ⟨_, _, rfl, ⟨hz, rfl⟩, q⟩
theorem c_lenT {e : Nat} (S : Sep l H) (hi : l[e]? = some (Tp p xs)) (q : Q (.int (xs.length : Nat)) H) : gLen K [.ref p] H Q := .inl ⟨_, _, rfl, .inr ⟨xs, SqT.of (S.tp hi), rfl⟩, q⟩
theorem c_lenD {e : Nat} {kvs : List (Key × V)} (S : Sep l H) (hi : l[e]? = some (At p (.dK kvs))) (q : Q (.int (kvs.length : Nat)) H) : gLen K [.ref p] H Q := .inr ⟨p, kvs, rfl, S.at hi, q⟩
def gList (K : PySem.W.Frag) : List V → Hp → VK → Prop := fun xs H Q => ∃ p ys, xs = [.ref p] ∧ (SqL K H p ys ∨ SqT K H p ys) ∧ ∀ l, H l = none → Q (.ref l) (upd H l (.lst ys))
theorem call_gList {X : Cx} {K : PySem.W.Frag} (hK : X.K = K) : CallR X (.type "list") (gList K) := by rw [← hK]; exact call_list_of
theorem c_listL {e : Nat} (S : Sep l H) (hi : l[e]? = some (At p (.lst xs))) (k : ∀ d H', Sep (At d (.lst xs) :: l) H' → Q (.ref d) H') : gList K [.ref p] H Q := ⟨p, xs, rfl, .inl (SqL.of (S.at hi)), fun d hd => k d _ (S.new hd)⟩
theorem c_listT {e : Nat} (S : Sep l H) (hi : l[e]? = some (Tp p xs)) (k : ∀ d H', Sep (At d (.lst xs) :: l) H' → Q (.ref d) H') : gList K [.ref p] H Q := ⟨p, xs, rfl, .inr (SqT.of (S.tp hi)), fun d hd => k d _ (S.new hd)⟩
theorem r_BM {T : String} {rm : V → List V → Hp → VK → Prop} (q : ta σ H fun x H1 => tyV K T x H1 ∧ tr σ H1 fun xs H2 => rm x xs H2 Q) : tBM K T rm ta tr σ H Q := q
theorem m_tyL {e : Nat} {R : Prop} (S : Sep l H) (hi : l[e]? = some (At p (.lst xs))) (q : R) : tyV K "list" (.ref p) H ∧ R := ⟨.inl ⟨rfl, _, SqL.of (S.at hi)⟩, q⟩
theorem m_append {e : Nat} (S : Sep l H) (hi : l[e]? = some (At p (.lst xs))) (hz : xs.length < 100000) (k : ∀ H', Sep (l.set e (At p (.lst (xs ++ [v])))) H' → Q .non H') : rAppend (.ref p) [v] H Q :=
  ⟨p, xs, v, rfl, rfl, S.at hi, Nat.lt_of_lt_of_le hz (by decide), k _ (S.upd hi fun _ z => nomatch z)⟩
theorem r_sl {rs : V → Option Int → Option Int → Hp → VK → Prop} {tl th : TO} (q : te σ H fun x H1 => tl σ H1 fun lo H2 => th σ H2 fun hi H3 => rs x lo hi H3 Q) : tSl rs te tl th σ H Q := q
theorem r_part {QO : Option Int → Hp → Prop} (q : te σ H fun x H1 => ∃ i, x = .int i ∧ QO (some i) H1) : tPart te σ H QO := q
theorem r_nopart {QO : Option Int → Hp → Prop} (q : QO none H) : tNoPart σ H QO := q
theorem r_isint {P : Int → Prop} (q : P n) : ∃ i, V.int n = .int i ∧ P i := ⟨n, rfl, q⟩
theorem s_lst {e : Nat} {lo hi : Option Int} (S : Sep l H) (he : l[e]? = some (At p (.lst xs))) (k : ∀ d H', Sep (At d (.lst (cutV xs lo hi)) :: l) H' → Q (.ref d) H') : gSl K (.ref p) lo hi H Q := .inl ⟨p, xs, rfl, SqL.of (S.at he), fun d hd => k d _ (S.new hd)⟩
theorem s_str {z : Str} {lo hi : Option Int} (hz : z.length ≤ sizeLine) (q : Q (.str (cutS z lo hi)) H) : gSl K (.str z) lo hi H Q := .inr ⟨z, rfl, hz, q⟩
end

theorem call_gLen0 {X : Cx} : CallR X (.builtin "len") (gLen X.K) := CallR.or call_len fun pins s σ H xs us Q I r h => by
  obtain ⟨a, kvs, rfl, ha, q⟩ := h
  exact call_lenD pins s σ H _ us Q I r ⟨a, kvs, rfl, ha, q⟩
theorem call_gLen {X : Cx} {K : PySem.W.Frag} (hK : X.K = K) : CallR X (.builtin "len") (gLen K) := by rw [← hK]; exact call_gLen0
/-- the draws' source: the cells, the next cell, what is left of a great one, the number of draws -/
def Src (s : Addr) : Asn := Exs fun (x : Addr × List Int × Int × Int × Int) => Pk [pure' (x.2.1.length ≤ 63 ∧ 0 ≤ x.2.2.1 ∧ 0 ≤ x.2.2.2.1 ∧ 0 ≤ x.2.2.2.2), At s (.lst [.ref x.1, .int x.2.2.1, .int x.2.2.2.1, .int x.2.2.2.2]), At x.1 (.lst (x.2.1.map V.int))]
theorem src_open {s : Addr} {l : List Asn} {H : Hp} (S : Sep (Src s :: l) H) : ∃ (L : Addr) (ns : List Int) (a b c : Int), ns.length ≤ 63 ∧ 0 ≤ a ∧ 0 ≤ b ∧ 0 ≤ c ∧ Sep (At s (.lst [.ref L, .int a, .int b, .int c]) :: At L (.lst (ns.map V.int)) :: l) H := by
  obtain ⟨⟨L, ns, a, b, c⟩, S⟩ := S.ex
  obtain ⟨⟨h1, h2, h3, h4⟩, S⟩ := (S.open').pure
  exact ⟨L, ns, a, b, c, h1, h2, h3, h4, S⟩
theorem src_close {s L : Addr} {ns : List Int} {a b c : Int} {l : List Asn} {H : Hp} (h1 : ns.length ≤ 63) (h2 : 0 ≤ a) (h3 : 0 ≤ b) (h4 : 0 ≤ c) (S : Sep (At s (.lst [.ref L, .int a, .int b, .int c]) :: At L (.lst (ns.map V.int)) :: l) H) : Sep (Src s :: l) H :=
  Sep.ex' (x := (L, ns, a, b, c)) (Sep.close' (l := [_, _, _]) (Sep.pure_in ⟨h1, h2, h3, h4⟩ S))
local macro_rules | `(tactic| walk_at "has") => `(tactic| (first | with_reducible exact has0 | with_reducible exact (hasS has0) | with_reducible exact (hasS (hasS has0)) | with_reducible exact (hasS (hasS (hasS has0))) | with_reducible exact (hasS (hasS (hasS (hasS has0)))) | with_reducible exact (hasS (hasS (hasS (hasS (hasS has0))))) | with_reducible exact (hasS (hasS (hasS (hasS (hasS (hasS has0)))))) | with_reducible exact (hasS (hasS (hasS (hasS (hasS (hasS (hasS has0))))))) | with_reducible exact (hasS (hasS (hasS (hasS (hasS (hasS (hasS (hasS has0)))))))) | with_reducible exact (hasS (hasS (hasS (hasS (hasS (hasS (hasS (hasS (hasS has0))))))))) | with_reducible exact (hasS (hasS (hasS (hasS (hasS (hasS (hasS (hasS (hasS (hasS has0)))))))))) | with_reducible exact (hasS (hasS (hasS (hasS (hasS (hasS (hasS (hasS (hasS (hasS (hasS has0))))))))))) | with_reducible exact (hasS (hasS (hasS (hasS (hasS (hasS (hasS (hasS (hasS (hasS (hasS (hasS has0)))))))))))) | with_reducible exact (hasS (hasS (hasS (hasS (hasS (hasS (hasS (hasS (hasS (hasS (hasS (hasS (hasS has0))))))))))))) | exact has0 | exact (hasS has0) | exact (hasS (hasS has0)) | exact (hasS (hasS (hasS has0))) | exact (hasS (hasS (hasS (hasS has0)))) | exact (hasS (hasS (hasS (hasS (hasS has0))))) | exact (hasS (hasS (hasS (hasS (hasS (hasS has0)))))) | exact (hasS (hasS (hasS (hasS (hasS (hasS (hasS has0))))))) | exact (hasS (hasS (hasS (hasS (hasS (hasS (hasS (hasS has0)))))))) | exact (hasS (hasS (hasS (hasS (hasS (hasS (hasS (hasS (hasS has0))))))))) | exact (hasS (hasS (hasS (hasS (hasS (hasS (hasS (hasS (hasS (hasS has0)))))))))) | exact (hasS (hasS (hasS (hasS (hasS (hasS (hasS (hasS (hasS (hasS (hasS has0))))))))))) | exact (hasS (hasS (hasS (hasS (hasS (hasS (hasS (hasS (hasS (hasS (hasS (hasS has0)))))))))))) | exact (hasS (hasS (hasS (hasS (hasS (hasS (hasS (hasS (hasS (hasS (hasS (hasS (hasS has0)))))))))))))))
local macro_rules | `(tactic| walk_at "alloc") => `(tactic| (first
  | (refine ⟨?hz, fun p hp => ?_⟩; (case hz => (first | decide | (simp only [List.length_cons, List.length_nil]; decide))); (generalize hg : upd _ p _ = H1); first | (have S := newT_eq (by assumption) hp hg; clear hg hp) | (have S := new_eq (by assumption) hp hg; clear hg hp))
  | (refine fun p hp => ?_; (generalize hg : upd _ p _ = H1); first | (have S := newT_eq (by assumption) hp hg; clear hg hp) | (have S := new_eq (by assumption) hp hg; clear hg hp))))
local macro_rules | `(tactic| walk_at "v1") => `(tactic| (first
  | with_reducible refine r_var rfl ?_
  | with_reducible refine r_c ?_
  | with_reducible refine r_op ?_
  | with_reducible refine r_un ?_
  | with_reducible refine r_test ?_
  | with_reducible refine r_B ?_
  | with_reducible refine r_isbl ?_
  | with_reducible refine r_and ?_
  | with_reducible refine r_or ?_
  | with_reducible refine r_not ?_
  | with_reducible refine r_andV ?_
  | with_reducible refine r_orV ?_
  | with_reducible refine r_notV ?_
  | with_reducible refine r_ifE ?_
  | with_reducible refine r_nil ?_
  | with_reducible refine r_cons ?_
  | with_reducible refine r_chain ?_
  | with_reducible refine r_call ?_
  | with_reducible refine r_CB ?_
  | with_reducible refine r_tup ?_
  | with_reducible refine r_list ?_
  | with_reducible refine r_seq ?_
  | with_reducible refine r_next ?_
  | with_reducible refine r_ret ?_
  | with_reducible refine r_retN ?_
  | with_reducible refine r_drop ?_
  | with_reducible refine r_ifS ?_
  | with_reducible refine r_asg ?_
  | with_reducible refine g_name ?_
  | with_reducible refine g_cons ?_
  | with_reducible refine g_nil ?_
  | with_reducible refine g_sub ?_
  | with_reducible refine r_sl ?_
  | with_reducible refine r_part ?_
  | with_reducible refine r_nopart ?_
  | with_reducible refine r_isint ?_
  | with_reducible refine o_add ?_
  | with_reducible refine o_sub ?_
  | with_reducible refine o_neg ?_
  | with_reducible refine o_lt ?_
  | with_reducible refine o_le ?_
  | with_reducible refine o_gt ?_
  | with_reducible refine o_ge ?_
  | with_reducible refine o_eqI ?_
  | with_reducible refine o_eqS ?_
  | with_reducible refine o_eqB ?_
  | with_reducible refine o_neI ?_
  | with_reducible refine o_neS ?_
  | with_reducible refine o_neB ?_
  | with_reducible refine o_is ?_
  | with_reducible refine o_isN ?_
  | with_reducible refine c_int ?_
  | with_reducible refine c_abs ?_
  | ((with_reducible refine o_mulR ?hm ?_); (case hm => (constructor <;> decide)))
  | ((with_reducible refine o_mulL ?hm ?_); (case hm => (constructor <;> decide)))
  | ((with_reducible refine o_mulR ?hm ?_); (case hm => (constructor <;> omega)))
  | ((with_reducible refine o_mulL ?hm ?_); (case hm => (constructor <;> omega)))
  | ((with_reducible refine o_div ?h0 ?h1 ?_); (case h0 => (first | decide | omega | assumption)); (case h1 => (first | decide | omega)))
  | ((with_reducible refine o_mod ?h0 ?_); (case h0 => (first | decide | omega | assumption)); intro _ _ _ _)
  | ((with_reducible refine' o_pow ?h0 ?he ?_); (case h0 => decide); (case he => (simp only [Int.reduceToNat]; rfl)))
  | ((with_reducible refine' x_lstM (by assumption) ?hi ?h0 ?h1 ?_); (case hi => walk_at "has"); (case h0 => (first | omega | assumption)); (case h1 => (first | omega | assumption)); intro _ _)
  | ((with_reducible refine' x_lst (by assumption) ?hi ?ha ?_); (case hi => walk_at "has"); (case ha => rfl))
  | ((with_reducible refine' x_tup (by assumption) ?hi ?ha ?_); (case hi => walk_at "has"); (case ha => rfl))
  | ((with_reducible refine' c_lenM (by assumption) ?hi ?_); (case hi => walk_at "has"))
  | ((with_reducible refine' c_lenL (by assumption) ?hi ?_); (case hi => walk_at "has"))
  | ((with_reducible refine' c_lenT (by assumption) ?hi ?_); (case hi => walk_at "has"))
  | ((with_reducible refine' c_lenD (by assumption) ?hi ?_); (case hi => walk_at "has"))
  | ((with_reducible refine' w_lst (by assumption) ?hi ?ha ?_); (case hi => walk_at "has"); (case ha => rfl); intro _ S; simp only [List.set, Int.reduceToNat] at S)
  | walk_at "alloc"
  | with_reducible refine r_BM ?_
  | ((with_reducible refine' m_append (by assumption) ?hi ?hz ?_); (case hi => walk_at "has"); (case hz => (first | decide | omega | assumption)); intro _ S; simp only [List.set] at S)
  | ((with_reducible refine' m_tyL (by assumption) ?hi ?_); (case hi => walk_at "has"))
  | (with_reducible refine r_ifT rfl ?_)
  | (with_reducible refine r_ifF rfl ?_)
  | ((with_reducible refine r_ifDT ?hc ?_); (case hc => (first | omega | assumption)))
  | ((with_reducible refine r_ifDF ?hc ?_); (case hc => (first | omega | assumption)))
  | ((with_reducible refine r_ifNT ?hc ?_); (case hc => (first | omega | assumption)))
  | ((with_reducible refine r_ifNF ?hc ?_); (case hc => (first | omega | assumption)))
  ))
local macro_rules | `(tactic| walk_at "v") => `(tactic| (repeat (walk_at "v1")))

/-! loops, comprehensions, dicts -/
def ForB (J : It) (g : TG) (tb : TS) (D : Ends) : St → Hp → Prop := fun σ H1 => ∃ W : Nat → Nat → St → Hp → Prop, (∃ m, W 0 m σ H1) ∧ ∀ i m σ H, W i m σ H →
  (J.stop i H ∧ D.nx σ H) ∨ (J.go i H ∧ ∃ N : St → Hp → Prop, (∀ σ' H', N σ' H' → ∃ m', m' < m ∧ W (i + 1) m' σ' H') ∧ ∀ x H', J.yld i H x H' → g x σ H' fun σ2 H2 => tb { D with nx := N, ct := N, bk := D.nx } σ2 H2)
def LcB (J : It) (g : TG) (tt : TT) (te : TE) (vs : List Nat) : St → Hp → VK → Prop := fun σ H1 Q => ∀ D, H1 D = none → ∃ W : Nat → Nat → Hp → Prop, (∃ m, W 0 m (upd H1 D (.lst []))) ∧ ∀ i m H, W i m H →
  (J.stop i H ∧ Q (.ref D) H) ∨ (J.go i H ∧ ∃ Nx : Hp → Prop, (∀ H', Nx H' → ∃ m', m' < m ∧ W (i + 1) m' H') ∧ ∀ x H', J.yld i H x H' → g x (wipe σ vs) H' fun σ2 H2 => wipe σ2 vs = wipe σ vs ∧ tt σ2 H2 fun b H3 =>
    if b = true then te σ2 H3 fun y H4 => ∃ acc, H4 D = some (.lst acc) ∧ acc.length < sizeLine ∧ Nx (upd H4 D (.lst (acc ++ [y]))) else Nx H3)
section
variable {σ : St} {H : Hp} {K : PySem.W.Frag} {g : TG} {tb : TS} {nx bk ct : St → Hp → Prop} {rt : VK} {te ta : TE} {tA : TA} {tt : TT} {vs : List Nat} {Q : VK} {l : List Asn} {n m : Int} {p : Addr} {xs : List V} {D : Ends}
theorem r_forR1 (q : tA σ H fun vs H1 => ∃ j : Int, vs = [.int j] ∧ -(2 ^ 62) ≤ j ∧ j < 2 ^ 62 ∧ ForB (Itr 0 j.toNat) g tb D σ H1) : tFor (iRng1 tA) g tb D σ H := q
theorem r_forR2 (q : tA σ H fun vs H1 => ∃ i j : Int, vs = [.int i, .int j] ∧ (-(2 ^ 62) ≤ i ∧ i < 2 ^ 62 ∧ -(2 ^ 62) ≤ j ∧ j < 2 ^ 62) ∧ ForB (Itr i (j - i).toNat) g tb D σ H1) : tFor (iRng2 tA) g tb D σ H := q
theorem r_forL (q : te σ H fun x H1 => ∃ a, x = .ref a ∧ (∃ xs, SqL K H1 a xs) ∧ ForB (Itl K a) g tb D σ H1) : tFor (iList K te) g tb D σ H := q
theorem r_forT (q : te σ H fun x H1 => ∃ a, x = .ref a ∧ (∃ xs, SqT K H1 a xs) ∧ ForB (Itt K a) g tb D σ H1) : tFor (iTup K te) g tb D σ H := q
theorem r_forK (q : te σ H fun x H1 => ∃ d o, x = .ref d ∧ ((∃ kvs, H1 d = some (.frz o (.dK kvs)) ∧ ForB (Itk d o kvs) g tb D σ H1) ∨ ∃ kvs, H1 d = some (.frz o (.dT kvs)) ∧ ForB (Itkt d o kvs) g tb D σ H1)) : tFor (iKeys te) g tb D σ H := q
theorem r_forI (q : te σ H fun x H1 => ∃ d o kvs, x = .ref d ∧ H1 d = some (.frz o (.dK kvs)) ∧ ForB (Iti d o kvs) g tb D σ H1) : tFor (iItems te) g tb D σ H := q
theorem r_forE (q : tA σ H fun vs H1 => ∃ a xs, vs = [.ref a] ∧ SqL K H1 a xs ∧ ForB (Ite K a) g tb D σ H1) : tFor (iEnum K tA) g tb D σ H := q
/-- for k in range(n) -/
theorem forR (b0 : -(2 ^ 62) ≤ n) (b1 : n < 2 ^ 62) (Pv : Nat → St → Hp → Prop) (h0 : Pv 0 σ H) (hs : ∀ (i : Nat) σ H, (i : Int) < n → Pv i σ H → g (.int (i : Int)) σ H fun σ2 H2 => tb ⟨Pv (i + 1), rt, nx, Pv (i + 1)⟩ σ2 H2)
    (hd : ∀ σ H, Pv n.toNat σ H → nx σ H) : ∃ j : Int, [V.int n] = [.int j] ∧ -(2 ^ 62) ≤ j ∧ j < 2 ^ 62 ∧ ForB (Itr 0 j.toNat) g tb ⟨nx, rt, bk, ct⟩ σ H :=
  ⟨n, rfl, b0, b1, for_range (D := ⟨nx, rt, bk, ct⟩) Pv h0 (fun i σ H hi p => by
    have q := hs i σ H (by omega) p
    have e : (0 : Int) + (i : Int) = (i : Int) := Int.zero_add _
    rw [e]
    exact q) hd⟩
/-- for x in xs -/
theorem forL {e : Nat} (S : Sep l H) (hi : l[e]? = some (At p (.lst xs))) (Pv : Nat → St → Hp → Prop) (h0 : Pv 0 σ H) (hl : ∀ i σ H, Pv i σ H → H p = some (.lst xs))
    (hs : ∀ i x σ H, xs[i]? = some x → Pv i σ H → g x σ H fun σ2 H2 => tb ⟨Pv (i + 1), rt, nx, Pv (i + 1)⟩ σ2 H2) (hd : ∀ σ H, Pv xs.length σ H → nx σ H) :
    ∃ a, V.ref p = .ref a ∧ (∃ xs, SqL K H a xs) ∧ ForB (Itl K a) g tb ⟨nx, rt, bk, ct⟩ σ H :=
  ⟨p, rfl, ⟨xs, SqL.of (S.at hi)⟩, for_list (K := K) (D := ⟨nx, rt, bk, ct⟩) Pv h0 (fun i σ H _ q => SqL.of (hl i σ H q)) hs hd⟩
/-- for i, x in enumerate(xs) -/
theorem forE {e : Nat} (S : Sep l H) (hi : l[e]? = some (At p (.lst xs))) (Pv : Nat → St → Hp → Prop) (h0 : Pv 0 σ H) (hl : ∀ i σ H, Pv i σ H → H p = some (.lst xs))
    (hs : ∀ i x T σ H H', xs[i]? = some x → Pv i σ H → H T = none → H' = upd H T (.tup [.int (i : Nat), x]) → g (.ref T) σ H' fun σ2 H2 => tb ⟨Pv (i + 1), rt, nx, Pv (i + 1)⟩ σ2 H2) (hd : ∀ σ H, Pv xs.length σ H → nx σ H) :
    ∃ a ys, [V.ref p] = [.ref a] ∧ SqL K H a ys ∧ ForB (Ite K a) g tb ⟨nx, rt, bk, ct⟩ σ H := by
  refine ⟨p, xs, rfl, SqL.of (S.at hi), fun i m σ H => m = xs.length - i ∧ i ≤ xs.length ∧ Pv i σ H, ⟨xs.length, by simp, Nat.zero_le _, h0⟩, ?_⟩
  rintro i m σ H ⟨rfl, hi, q⟩
  have hq : SqL K H p xs := SqL.of (hl i σ H q)
  by_cases hlt : i < xs.length
  · refine .inr ⟨⟨xs, xs[i], hq, by simp [hlt]⟩, Pv (i + 1), fun σ' H' p' => ⟨xs.length - (i + 1), by omega, rfl, hlt, p'⟩, fun x H' y => ?_⟩
    obtain ⟨T, z, rfl, hn, rfl, f⟩ := y
    exact hs i z T σ H _ (f xs hq) q hn rfl
  · have e : i = xs.length := by omega
    subst e
    exact .inl ⟨⟨xs, hq, Nat.le_refl _⟩, hd σ H q⟩
/-- for k in d, locked -/
theorem forK {e : Nat} {kvs : List (Key × V)} (S : Sep l H) (hi : l[e]? = some (At p (.dK kvs))) (Pv : Obj → Nat → St → Hp → Prop) (h0 : ∀ od H', Sep (l.set e (At p (.frz od (.dK kvs)))) H' → Pv od 0 σ H') (hl : ∀ od i σ H, Pv od i σ H → H p = some (.frz od (.dK kvs)))
    (hs : ∀ od i k v σ H, kvs[i]? = some (k, v) → Pv od i σ H → g (kV k) σ H fun σ2 H2 => tb ⟨Pv od (i + 1), fun v H' => H' p = some (.frz od (.dK kvs)) ∧ rt v (upd H' p (.dK kvs)), fun σ' H' => H' p = some (.frz od (.dK kvs)) ∧ nx σ' (upd H' p (.dK kvs)), Pv od (i + 1)⟩ σ2 H2)
    (hd : ∀ od σ H, Pv od kvs.length σ H → nx σ (upd H p (.dK kvs))) (hv : ∀ H', te σ H' = fun Q => Q (.ref p) H') : tLock (tFor (iKeys te) g tb) ⟨nx, rt, bk, ct⟩ σ H := by
  refine ⟨p, .dK kvs, S.at hi, trivial, fun od => ?_⟩
  have S' := S.upd hi (o' := .frz od (.dK kvs)) (fun _ z => nomatch z)
  refine r_forK ?_
  rw [hv]
  refine ⟨p, od, rfl, .inl ⟨kvs, upd_same, fun i m σ H => m = kvs.length - i ∧ i ≤ kvs.length ∧ Pv od i σ H, ⟨kvs.length, by simp, Nat.zero_le _, h0 od _ S'⟩, ?_⟩⟩
  rintro i m σ H ⟨rfl, hi, q⟩
  have hq := hl od i σ H q
  by_cases hlt : i < kvs.length
  · refine .inr ⟨⟨hq, hlt⟩, Pv od (i + 1), fun σ' H' p' => ⟨kvs.length - (i + 1), by omega, rfl, hlt, p'⟩, fun x H' y => ?_⟩
    obtain ⟨rfl, k, v, ek, rfl⟩ := y
    exact hs od i k v σ _ ek q
  · have e : i = kvs.length := by omega
    subst e
    exact .inl ⟨⟨hq, Nat.le_refl _⟩, hq, hd od σ H q⟩
/-- .. of d.items() -/
theorem forI {e : Nat} {kvs : List (Key × V)} (S : Sep l H) (hi : l[e]? = some (At p (.dK kvs))) (Pv : Obj → Nat → St → Hp → Prop) (h0 : ∀ od H', Sep (l.set e (At p (.frz od (.dK kvs)))) H' → Pv od 0 σ H') (hl : ∀ od i σ H, Pv od i σ H → H p = some (.frz od (.dK kvs)))
    (hs : ∀ od i k v T σ H H', kvs[i]? = some (k, v) → Pv od i σ H → H T = none → H' = upd H T (.tup [kV k, v]) → g (.ref T) σ H' fun σ2 H2 => tb ⟨Pv od (i + 1), fun v H' => H' p = some (.frz od (.dK kvs)) ∧ rt v (upd H' p (.dK kvs)), fun σ' H' => H' p = some (.frz od (.dK kvs)) ∧ nx σ' (upd H' p (.dK kvs)), Pv od (i + 1)⟩ σ2 H2)
    (hd : ∀ od σ H, Pv od kvs.length σ H → nx σ (upd H p (.dK kvs))) (hv : ∀ H', te σ H' = fun Q => Q (.ref p) H') : tLock (tFor (iItems te) g tb) ⟨nx, rt, bk, ct⟩ σ H := by
  refine ⟨p, .dK kvs, S.at hi, trivial, fun od => ?_⟩
  have S' := S.upd hi (o' := .frz od (.dK kvs)) (fun _ z => nomatch z)
  refine r_forI ?_
  rw [hv]
  refine ⟨p, od, kvs, rfl, upd_same, fun i m σ H => m = kvs.length - i ∧ i ≤ kvs.length ∧ Pv od i σ H, ⟨kvs.length, by simp, Nat.zero_le _, h0 od _ S'⟩, ?_⟩
  rintro i m σ H ⟨rfl, hi, q⟩
  have hq := hl od i σ H q
  by_cases hlt : i < kvs.length
  · refine .inr ⟨⟨hq, hlt⟩, Pv od (i + 1), fun σ' H' p' => ⟨kvs.length - (i + 1), by omega, rfl, hlt, p'⟩, fun x H' y => ?_⟩
    obtain ⟨T, k, v, ek, rfl, hn, rfl⟩ := y
    exact hs od i k v T σ H _ ek q hn rfl
  · have e : i = kvs.length := by omega
    subst e
    exact .inl ⟨⟨hq, Nat.le_refl _⟩, hq, hd od σ H q⟩
/-! comprehensions -/
theorem r_lcL (q : te σ H fun x H1 => ∃ a, x = .ref a ∧ (∃ xs, SqL K H1 a xs) ∧ LcB (Itl K a) g tt ta vs σ H1 Q) : tLc (iList K te) g tt ta vs σ H Q := q
theorem r_lcT (q : te σ H fun x H1 => ∃ a, x = .ref a ∧ (∃ xs, SqT K H1 a xs) ∧ LcB (Itt K a) g tt ta vs σ H1 Q) : tLc (iTup K te) g tt ta vs σ H Q := q
theorem r_lcR1 (q : tA σ H fun vs' H1 => ∃ j : Int, vs' = [.int j] ∧ -(2 ^ 62) ≤ j ∧ j < 2 ^ 62 ∧ LcB (Itr 0 j.toNat) g tt ta vs σ H1 Q) : tLc (iRng1 tA) g tt ta vs σ H Q := q
theorem r_lcS (q : te σ H fun v H1 => ∃ x, v = .str x ∧ LcB (Its x) g tt ta vs σ H1 Q) : tLc (iStr te) g tt ta vs σ H Q := q
theorem upd_eqL {e : Nat} {ys : List V} {H1 : Hp} (S : Sep l H) (hi : l[e]? = some (At p (.lst xs))) (hg : upd H p (.lst ys) = H1) : Sep (l.set e (At p (.lst ys))) H1 := by
  rw [← hg]
  exact S.upd hi fun _ z => nomatch z
theorem lc_put1 {e : Nat} {acc : List V} {D : Addr} {R : List V → Prop} (S : Sep l H) (hi : l[e]? = some (At D (.lst acc))) (hz : acc.length < 100000) (k : R acc) : ∃ acc', H D = some (.lst acc') ∧ acc'.length < sizeLine ∧ R acc' := ⟨acc, S.at hi, Nat.lt_of_lt_of_le hz (by decide), k⟩
/-- the turn's end: the item goes to the new list -/
theorem lc_put {e : Nat} {acc : List V} {v : V} {D : Addr} {Nx : Hp → Prop} (S : Sep l H) (hi : l[e]? = some (At D (.lst acc))) (hz : acc.length < 100000) (k : ∀ H', Sep (l.set e (At D (.lst (acc ++ [v])))) H' → Nx H') :
    ∃ acc', H D = some (.lst acc') ∧ acc'.length < sizeLine ∧ Nx (upd H D (.lst (acc' ++ [v]))) := ⟨acc, S.at hi, Nat.lt_of_lt_of_le hz (by decide), k _ (S.upd hi fun _ z => nomatch z)⟩
abbrev LcT (g : TG) (tt : TT) (ta : TE) (vs : List Nat) (σ : St) (x : V) (D : Addr) (N : Hp → Prop) (H : Hp) : Prop := g x (wipe σ vs) H fun σ2 H2 => wipe σ2 vs = wipe σ vs ∧ tt σ2 H2 fun b H3 =>
      if b = true then ta σ2 H3 fun y H4 => ∃ acc, H4 D = some (.lst acc) ∧ acc.length < sizeLine ∧ N (upd H4 D (.lst (acc ++ [y]))) else N H3
theorem lc_turn {x : V} {N : Hp → Prop} {D : Addr} (q : g x (wipe σ vs) H fun σ2 H2 => wipe σ2 vs = wipe σ vs ∧ tt σ2 H2 fun b H3 =>
      if b = true then ta σ2 H3 fun y H4 => ∃ acc, H4 D = some (.lst acc) ∧ acc.length < sizeLine ∧ N (upd H4 D (.lst (acc ++ [y]))) else N H3) : LcT g tt ta vs σ x D N H := q
/-- [e for x in xs if ..], xs at an address of ours; D: the new list's address -/
theorem lcL {e : Nat} (S : Sep l H) (hi : l[e]? = some (At p (.lst xs))) (Pv : Addr → Nat → Hp → Prop) (h0 : ∀ D H', Sep (At D (.lst []) :: l) H' → Pv D 0 H') (hl : ∀ D i H, Pv D i H → H p = some (.lst xs))
    (hs : ∀ D i x H, xs[i]? = some x → Pv D i H → LcT g tt ta vs σ x D (Pv D (i + 1)) H) (hd : ∀ D H, Pv D xs.length H → Q (.ref D) H) : ∃ a, V.ref p = .ref a ∧ (∃ xs, SqL K H a xs) ∧ LcB (Itl K a) g tt ta vs σ H Q :=
  ⟨p, rfl, ⟨xs, SqL.of (S.at hi)⟩, fun D hD => lc_list (K := K) (Pv D) (h0 D _ (S.new hD)) (fun i H _ q => SqL.of (hl D i H q)) (hs D) (hd D)⟩
/-- .. over range(n) -/
theorem lcR (S : Sep l H) (b0 : -(2 ^ 62) ≤ n) (b1 : n < 2 ^ 62) (Pv : Addr → Nat → Hp → Prop) (h0 : ∀ D H', Sep (At D (.lst []) :: l) H' → Pv D 0 H')
    (hs : ∀ D (i : Nat) H, (i : Int) < n → Pv D i H → LcT g tt ta vs σ (.int (i : Int)) D (Pv D (i + 1)) H) (hd : ∀ D H, Pv D n.toNat H → Q (.ref D) H) : ∃ j : Int, [V.int n] = [.int j] ∧ -(2 ^ 62) ≤ j ∧ j < 2 ^ 62 ∧ LcB (Itr 0 j.toNat) g tt ta vs σ H Q :=
  ⟨n, rfl, b0, b1, fun D hD => lc_range (Pv D) (h0 D _ (S.new hD)) (fun i H hi q => by
    have e : (0 : Int) + (i : Int) = (i : Int) := Int.zero_add _
    rw [e]
    exact hs D i H (by omega) q) (hd D)⟩
/-- .. over the signs of a text -/
theorem lcS {x : Str} (S : Sep l H) (Pv : Addr → Nat → Hp → Prop) (h0 : ∀ D H', Sep (At D (.lst []) :: l) H' → Pv D 0 H')
    (hs : ∀ D (i : Nat) c H, x.cps[i]? = some c → Pv D i H → LcT g tt ta vs σ (.str ⟨#[c]⟩) D (Pv D (i + 1)) H) (hd : ∀ D H, Pv D x.cps.size H → Q (.ref D) H) : ∃ z, V.str x = .str z ∧ LcB (Its z) g tt ta vs σ H Q := by
  refine ⟨x, rfl, fun D hD => ⟨fun i m H => m = x.cps.size - i ∧ i ≤ x.cps.size ∧ Pv D i H, ⟨x.cps.size, by simp, Nat.zero_le _, h0 D _ (S.new hD)⟩, ?_⟩⟩
  rintro i m H ⟨rfl, hi, q⟩
  by_cases hlt : i < x.cps.size
  · refine .inr ⟨hlt, Pv D (i + 1), fun H' p' => ⟨x.cps.size - (i + 1), by omega, rfl, hlt, p'⟩, fun y H' z => ?_⟩
    obtain ⟨rfl, c, ec, rfl⟩ := z
    exact hs D i c _ ec q
  · have e : i = x.cps.size := by omega
    subst e
    exact .inl ⟨Nat.le_refl _, hd D H q⟩
/-- .. over the keys of a dict, locked -/
theorem lcK {e : Nat} {kvs : List (Key × V)} (S : Sep l H) (hi : l[e]? = some (At p (.dK kvs))) (Pv : Obj → Addr → Nat → Hp → Prop) (h0 : ∀ od D H', Sep (At D (.lst []) :: l.set e (At p (.frz od (.dK kvs)))) H' → Pv od D 0 H') (hl : ∀ od D i H, Pv od D i H → H p = some (.frz od (.dK kvs)))
    (hs : ∀ od D i k v H, kvs[i]? = some (k, v) → Pv od D i H → LcT g tt ta vs σ (kV k) D (Pv od D (i + 1)) H) (hd : ∀ od D H, Pv od D kvs.length H → Q (.ref D) (upd H p (.dK kvs))) (hv : ∀ H', te σ H' = fun Q => Q (.ref p) H') : tLockE (tLc (iKeys te) g tt ta vs) σ H Q := by
  refine ⟨p, .dK kvs, S.at hi, trivial, fun od => ?_⟩
  have S' := S.upd hi (o' := .frz od (.dK kvs)) (fun _ z => nomatch z)
  show te σ _ _
  rw [hv]
  refine ⟨p, od, rfl, .inl ⟨kvs, upd_same, fun D hD => ⟨fun i m H => m = kvs.length - i ∧ i ≤ kvs.length ∧ Pv od D i H, ⟨kvs.length, by simp, Nat.zero_le _, h0 od D _ (S'.new hD)⟩, ?_⟩⟩⟩
  rintro i m H ⟨rfl, hi, q⟩
  have hq := hl od D i H q
  by_cases hlt : i < kvs.length
  · refine .inr ⟨⟨hq, hlt⟩, Pv od D (i + 1), fun H' p' => ⟨kvs.length - (i + 1), by omega, rfl, hlt, p'⟩, fun x H' y => ?_⟩
    obtain ⟨rfl, k, v, ek, rfl⟩ := y
    exact hs od D i k v _ ek q
  · have e : i = kvs.length := by omega
    subst e
    exact .inl ⟨⟨hq, Nat.le_refl _⟩, hq, hd od D H q⟩
/-- .. over d.items(), locked -/
theorem lcI {e : Nat} {kvs : List (Key × V)} (S : Sep l H) (hi : l[e]? = some (At p (.dK kvs))) (Pv : Obj → Addr → Nat → Hp → Prop) (h0 : ∀ od D H', Sep (At D (.lst []) :: l.set e (At p (.frz od (.dK kvs)))) H' → Pv od D 0 H') (hl : ∀ od D i H, Pv od D i H → H p = some (.frz od (.dK kvs)))
    (hs : ∀ od D i k v T H H', kvs[i]? = some (k, v) → Pv od D i H → H T = none → H' = upd H T (.tup [kV k, v]) → LcT g tt ta vs σ (.ref T) D (Pv od D (i + 1)) H') (hd : ∀ od D H, Pv od D kvs.length H → Q (.ref D) (upd H p (.dK kvs))) (hv : ∀ H', te σ H' = fun Q => Q (.ref p) H') : tLockE (tLc (iItems te) g tt ta vs) σ H Q := by
  refine ⟨p, .dK kvs, S.at hi, trivial, fun od => ?_⟩
  have S' := S.upd hi (o' := .frz od (.dK kvs)) (fun _ z => nomatch z)
  show te σ _ _
  rw [hv]
  refine ⟨p, od, kvs, rfl, upd_same, fun D hD => ⟨fun i m H => m = kvs.length - i ∧ i ≤ kvs.length ∧ Pv od D i H, ⟨kvs.length, by simp, Nat.zero_le _, h0 od D _ (S'.new hD)⟩, ?_⟩⟩
  rintro i m H ⟨rfl, hi, q⟩
  have hq := hl od D i H q
  by_cases hlt : i < kvs.length
  · refine .inr ⟨⟨hq, hlt⟩, Pv od D (i + 1), fun H' p' => ⟨kvs.length - (i + 1), by omega, rfl, hlt, p'⟩, fun x H' y => ?_⟩
    obtain ⟨T, k, v, ek, rfl, hn, rfl⟩ := y
    exact hs od D i k v T H _ ek q hn rfl
  · have e : i = kvs.length := by omega
    subst e
    exact .inl ⟨⟨hq, Nat.le_refl _⟩, hq, hd od D H q⟩
/-! rules that name the written part -/
section
variable {X : Cx} (hK : X.K = K)
include hK
theorem pi_gList {tg e : Expr} (h : PE X e te) : PI X tg e (iList K te) := by rw [← hK]; exact pi_list h
theorem pi_gTup {tg e : Expr} (h : PE X e te) : PI X tg e (iTup K te) := by rw [← hK]; exact pi_tup h
theorem pg_gTup {pos : Pos} {es : List Expr} {k : Nat} {t : TGs} {n : Nat} (hc : X.calm = true) (h : PGs X es t) (hn : (assignEach es X.env).length = n := by rfl) (hpl : (assignEach es X.env).findIdx? (·.1) = none := by rfl) : PG X (.Tuple es k pos) (gTup K n t) := by rw [← hK]; exact pg_tup hc h hn hpl
theorem pe_gFld {e : Expr} {f : Str} {pos : Pos} (h : PE X e te) (hb : attributeBase e f X.env (eval e X.env) = eval e X.env) : PE X (.Attribute e f pos) (tFld K te f) := by rw [← hK]; exact pe_fld h hb
end
/-! a word between a statement and the rest -/
def tCut (t u : TS) : TS := fun D σ H => ∃ Mid : St → Hp → Prop, t { D with nx := Mid } σ H ∧ ∀ σ' H', Mid σ' H' → u D σ' H'
theorem pss_cut {X : Cx} {st : Stmt} {rest : List Stmt} {t u : TS} (h1 : PS X st t) (h2 : PSs X rest u) : PSs X (st :: rest) (tCut t u) := by
  refine ⟨fun pins s σ H D I h => ?_⟩
  obtain ⟨Mid, hm, hu⟩ := h
  refine wpAny_execs_cons (thn (h1.run pins s σ H { D with nx := Mid } I hm) fun f s1 q => ?_)
  cases f with
  | next =>
    obtain ⟨σ', H', I', q⟩ := q
    exact h2.run pins s1 σ' H' D I' (hu σ' H' q)
  | ret v => exact q
  | brk => exact q
  | cont => exact q
theorem r_cut {ts tz : TS} (Mid : St → Hp → Prop) (h : ts ⟨Mid, rt, bk, ct⟩ σ H) (k : ∀ σ' H', Mid σ' H' → tz ⟨nx, rt, bk, ct⟩ σ' H') : tCut ts tz ⟨nx, rt, bk, ct⟩ σ H := ⟨Mid, h, k⟩
/-! dicts -/
theorem d_get2 {td ty tx : TE} (q : td σ H fun x H1 => ∃ a, x = .ref a ∧ IsD H1 a ∧ ty σ H1 fun y H2 => tx σ H2 fun z H3 => ∃ o, DGet H3 a y o ∧ Q (o.getD z) H3) : tDGet2 td ty tx σ H Q := q
theorem d_get {td ty : TE} (q : td σ H fun x H1 => ty σ H1 fun y H2 => ∃ a v, x = .ref a ∧ DGet H2 a y (some v) ∧ Q v H2) : tDGet td ty σ H Q := q
theorem d_put {td ty tv : TE} (q : tv σ H fun v H1 => td σ H1 fun x H2 => ty σ H2 fun y H3 => ∃ a H4, x = .ref a ∧ DPut H3 a y v H4 ∧ nx σ H4) : sDPut td ty tv ⟨nx, rt, bk, ct⟩ σ H := q
end

/-! data: tuples of data, lists of data -/
mutual
inductive IsD (H : Hp) : V → PyData → Prop
  | non : IsD H .non .none
  | bl (b : Bool) : IsD H (.bl b) (.bool b)
  | int (i : Int) : IsD H (.int i) (.int i)
  | str (x : Str) : IsD H (.str x) (.str x)
  | tup {q : Addr} {vs : List V} {ds : List PyData} : H q = some (.tup vs) → IsDs H vs ds → IsD H (.ref q) (.tuple ds)
inductive IsDs (H : Hp) : List V → List PyData → Prop
  | nil : IsDs H [] []
  | cons {v : V} {vs : List V} {d : PyData} {ds : List PyData} : IsD H v d → IsDs H vs ds → IsDs H (v :: vs) (d :: ds)
end
mutual
theorem IsD.tx {H H' : Hp} (t : Tx H H') : ∀ {v : V} {d : PyData}, IsD H v d → IsD H' v d
  | _, _, .non => .non
  | _, _, .bl b => .bl b
  | _, _, .int i => .int i
  | _, _, .str x => .str x
  | _, _, .tup h r => .tup (t _ _ h) (IsDs.tx t r)
theorem IsDs.tx {H H' : Hp} (t : Tx H H') : ∀ {vs : List V} {ds : List PyData}, IsDs H vs ds → IsDs H' vs ds
  | _, _, .nil => .nil
  | _, _, .cons h r => .cons (IsD.tx t h) (IsDs.tx t r)
end
mutual
theorem IsD.dp {K : PySem.W.Frag} {H : Hp} : ∀ {v : V} {d : PyData}, IsD H v d → Dp K H v d
  | _, _, .non => .non
  | _, _, .bl b => .bl b
  | _, _, .int i => .int i
  | _, _, .str x => .str x
  | _, _, .tup h r => .tup (SqT.of h) (IsDs.dp r)
theorem IsDs.dp {K : PySem.W.Frag} {H : Hp} : ∀ {vs : List V} {ds : List PyData}, IsDs H vs ds → DpAll K H vs ds
  | _, _, .nil => .nil
  | _, _, .cons h r => .cons (IsD.dp h) (IsDs.dp r)
end
theorem IsDs.len {H : Hp} : ∀ {vs : List V} {ds : List PyData}, IsDs H vs ds → vs.length = ds.length
  | _, _, .nil => rfl
  | _, _, .cons _ r => congrArg (· + 1) r.len
theorem IsDs.get {H : Hp} : ∀ {vs : List V} {ds : List PyData} {i : Nat} {v : V}, IsDs H vs ds → vs[i]? = some v → ∃ d, ds[i]? = some d ∧ IsD H v d
  | _, _, _, _, .nil, e => by cases e
  | _, _, 0, _, .cons h _, e => by cases e; exact ⟨_, rfl, h⟩
  | _, _, i + 1, _, .cons _ r, e => r.get (i := i) e
theorem IsDs.snoc {H : Hp} {v : V} {d : PyData} (h : IsD H v d) : ∀ {vs : List V} {ds : List PyData}, IsDs H vs ds → IsDs H (vs ++ [v]) (ds ++ [d])
  | _, _, .nil => .cons h .nil
  | _, _, .cons k r => .cons k (r.snoc h)
theorem IsDs.app {H : Hp} : ∀ {vs ws : List V} {ds es : List PyData}, IsDs H vs ds → IsDs H ws es → IsDs H (vs ++ ws) (ds ++ es)
  | _, _, _, _, .nil, s => s
  | _, _, _, _, .cons k r, s => .cons k (r.app s)
/-- data at a value, for good -/
def DV (v : V) (d : PyData) : Asn := ⟨fun f H => IsD H v d ∧ ∀ a, ¬ f a, fun _ _ h a z => (h.2 a z).elim, fun _ _ _ h _ t => ⟨h.1.tx t, h.2⟩⟩
def DVs (vs : List V) (ds : List PyData) : Asn := ⟨fun f H => IsDs H vs ds ∧ ∀ a, ¬ f a, fun _ _ h a z => (h.2 a z).elim, fun _ _ _ h _ t => ⟨h.1.tx t, h.2⟩⟩
/-- a list of data -/
def LD (a : Addr) (ds : List PyData) : Asn := Exs fun vs : List V => Pk [At a (.lst vs), DVs vs ds]
section
variable {l : List Asn} {H : Hp} {i : Nat} {A : Asn} {a : Addr} {ds : List PyData} {vs : List V} {v : V} {d : PyData}
theorem Sep.dv (S : Sep l H) (e : l[i]? = some (DV v d)) : IsD H v d := (S.get e).elim fun _ h => h.1
theorem Sep.dvs (S : Sep l H) (e : l[i]? = some (DVs vs ds)) : IsDs H vs ds := (S.get e).elim fun _ h => h.1
/-- what is true for good is added -/
theorem Sep.know (S : Sep l H) (h : A.h (fun _ => False) H) : Sep (A :: l) H := by
  obtain ⟨g, S⟩ := S
  exact ⟨_, .cons h S fun _ z => z.elim⟩
theorem Sep.addD (S : Sep l H) (h : IsD H v d) : Sep (DV v d :: l) H := S.know ⟨h, fun _ z => z⟩
theorem Sep.addDs (S : Sep l H) (h : IsDs H vs ds) : Sep (DVs vs ds :: l) H := S.know ⟨h, fun _ z => z⟩
theorem Sep.addT {q : Addr} {xs : List V} (S : Sep l H) (h : H q = some (.tup xs)) : Sep (Tp q xs :: l) H := S.know ⟨h, fun _ z => z⟩
theorem ld_open (S : Sep (LD a ds :: l) H) : ∃ vs, IsDs H vs ds ∧ Sep (At a (.lst vs) :: DVs vs ds :: l) H := by
  obtain ⟨vs, S⟩ := S.ex
  have S := S.open'
  exact ⟨vs, S.dvs (i := 1) rfl, S⟩
theorem ld_close (h : IsDs H vs ds) (S : Sep (At a (.lst vs) :: l) H) : Sep (LD a ds :: l) H :=
  Sep.ex' (x := vs) (Sep.close' (l := [_, _]) ((S.addDs h).reord [1, 0]))
theorem ld_dp {K : PySem.W.Frag} (S : Sep l H) (e : l[i]? = some (LD a ds)) : Dp K H (.ref a) (.list ds) := by
  obtain ⟨vs, h, S⟩ := ld_open (S.pick e)
  exact .lst (SqL.of (S.at (i := 0) rfl)) h.dp
end
/-- pairs of a word and a number -/
def pd (x : Str × Int) : PyData := .tuple [.str x.1, .int x.2]
abbrev pds (ps : List (Str × Int)) : List PyData := ps.map pd
theorem isD_pair {H : Hp} {v : V} {x : Str × Int} (h : IsD H v (pd x)) : ∃ q, v = .ref q ∧ H q = some (.tup [.str x.1, .int x.2]) := by
  cases h with
  | @tup q vs _ hq r =>
    cases r with
    | cons h1 r =>
      cases h1
      cases r with
      | cons h2 r =>
        cases h2
        cases r
        exact ⟨q, rfl, hq⟩
theorem pair_isD {H : Hp} {q : Addr} {w : Str} {n : Int} (h : H q = some (.tup [.str w, .int n])) : IsD H (.ref q) (pd (w, n)) := .tup h (.cons (.str w) (.cons (.int n) .nil))
theorem ps_get {H : Hp} {vs : List V} {ps : List (Str × Int)} {i : Nat} {v : V} (h : IsDs H vs (pds ps)) (e : vs[i]? = some v) : ∃ q x, ps[i]? = some x ∧ v = .ref q ∧ H q = some (.tup [.str x.1, .int x.2]) := by
  obtain ⟨d, e1, h1⟩ := h.get e
  rw [List.getElem?_map] at e1
  cases e2 : ps[i]? with
  | none => rw [e2] at e1; cases e1
  | some x =>
    rw [e2] at e1
    cases e1
    obtain ⟨q, rfl, hq⟩ := isD_pair h1
    exact ⟨q, x, rfl, rfl, hq⟩
theorem ps_len {H : Hp} {vs : List V} {ps : List (Str × Int)} (h : IsDs H vs (pds ps)) : vs.length = ps.length := by rw [h.len, List.length_map]
/-! ### words -/
def abc : List Nat := ("abcdefghijklmnopqrstuvwxyz" : Str).cps.toList
def Wd (w : Str) : Prop := 1 ≤ w.length ∧ w.length ≤ 8 ∧ ∀ c ∈ w.cps.toList, c ∈ abc
instance (w : Str) : Decidable (Wd w) := by unfold Wd; infer_instance
/-- good pairs -/
def Gp (ps : List (Str × Int)) : Prop := ∀ x ∈ ps, Wd x.1 ∧ -(10 ^ 30) < x.2 ∧ x.2 < 10 ^ 30
theorem abc_len : abc.length = 26 := by decide +kernel
section
variable {l : List Asn} {H : Hp} {K : PySem.W.Frag} {Q : VK} {n : Int} {z : Str}
theorem x_strI (hz : z.length ≤ 1000) (h0 : 0 ≤ n) (h1 : n < z.cps.toList.length) (k : ∀ c, c ∈ z.cps.toList → Q (.str ⟨#[c]⟩) H) : rIx K (.str z) (.int n) H Q := by
  obtain ⟨y, e1, e2⟩ := atI_in h0 h1
  exact x_str (Nat.le_trans hz (by decide)) e2 (k y (List.mem_of_getElem? e1))
theorem str_len_app (a b : Str) : (a ++ b).length = a.length + b.length := by
  show (a.cps ++ b.cps).size = _
  rw [Array.size_append]; rfl
theorem str_app (a b : Str) : (a ++ b).cps.toList = a.cps.toList ++ b.cps.toList := by
  show (a.cps ++ b.cps).toList = _
  rw [Array.toList_append]
end

/-! dicts of words and numbers -/
/-- the number of a word -/
def num : List (Str × Int) → Str → Int
  | [], _ => 0
  | x :: m, w => if x.1 = w then x.2 else num m w
def keys (m : List (Str × Int)) : List Str := m.map (·.1)
abbrev mp (m : List (Str × Int)) : List (Key × V) := m.map fun x => (Sum.inr x.1, V.int x.2)
def mput : List (Str × Int) → Str → Int → List (Str × Int)
  | [], w, n => [(w, n)]
  | x :: m, w, n => if x.1 = w then (x.1, n) :: m else x :: mput m w n
theorem num_put : ∀ (m : List (Str × Int)) (w : Str) (n : Int) (v : Str), num (mput m w n) v = if v = w then n else num m v
  | [], w, n, v => by
    show (if w = v then n else 0) = _
    by_cases h : v = w
    · rw [if_pos h, if_pos h.symm]
    · rw [if_neg h, if_neg (fun z => h z.symm)]; rfl
  | x :: m, w, n, v => by
    unfold mput
    by_cases hx : x.1 = w
    · rw [if_pos hx]
      show (if x.1 = v then n else num m v) = if v = w then n else (if x.1 = v then x.2 else num m v)
      by_cases h : v = w
      · rw [if_pos h, if_pos (by rw [hx, h])]
      · rw [if_neg h, if_neg (fun z => h (by rw [← z, hx])), if_neg (fun z => h (by rw [← z, hx]))]
    · rw [if_neg hx]
      show (if x.1 = v then x.2 else num (mput m w n) v) = if v = w then n else (if x.1 = v then x.2 else num m v)
      rw [num_put m w n v]
      by_cases h : v = w
      · rw [if_pos h, if_pos h, if_neg (fun z => hx (by rw [z, h]))]
      · rw [if_neg h, if_neg h]
theorem keys_put : ∀ (m : List (Str × Int)) (w : Str) (n : Int), keys (mput m w n) = if w ∈ keys m then keys m else keys m ++ [w]
  | [], w, n => by
    rw [if_neg (by intro h; cases h)]; rfl
  | x :: m, w, n => by
    unfold mput
    by_cases hx : x.1 = w
    · rw [if_pos hx, if_pos (by show w ∈ x.1 :: keys m; rw [hx]; exact List.mem_cons_self)]; rfl
    · rw [if_neg hx]
      show x.1 :: keys (mput m w n) = if w ∈ x.1 :: keys m then x.1 :: keys m else (x.1 :: keys m) ++ [w]
      rw [keys_put m w n]
      by_cases h : w ∈ keys m
      · rw [if_pos h, if_pos (show w ∈ x.1 :: keys m from List.mem_cons_of_mem _ h)]
      · rw [if_neg h, if_neg (show ¬ w ∈ x.1 :: keys m by
          intro z
          rcases List.mem_cons.1 z with z | z
          · exact hx z.symm
          · exact h z), List.cons_append]
theorem nodup_put {m : List (Str × Int)} (h : (keys m).Nodup) (w : Str) (n : Int) : (keys (mput m w n)).Nodup := by
  rw [keys_put]
  split
  · exact h
  · rename_i hw
    exact nd_snoc h hw
theorem len_put (m : List (Str × Int)) (w : Str) (n : Int) : (mput m w n).length ≤ m.length + 1 := by
  have e := congrArg List.length (keys_put m w n)
  unfold keys at e
  rw [List.length_map] at e
  rw [e]
  split <;> simp
theorem len_put_in {m : List (Str × Int)} {w : Str} (n : Int) (h : w ∈ keys m) : (mput m w n).length = m.length := by
  have e := congrArg List.length (keys_put m w n)
  rw [if_pos h] at e
  unfold keys at e
  rw [List.length_map, List.length_map] at e
  exact e
theorem mem_put {m : List (Str × Int)} {w v : Str} {n : Int} (h : v ∈ keys (mput m w n)) : v = w ∨ v ∈ keys m := by
  rw [keys_put] at h
  split at h
  · exact .inr h
  · rcases List.mem_append.1 h with h | h
    · exact .inr h
    · exact .inl (List.mem_singleton.1 h)
theorem val_mp : ∀ (m : List (Str × Int)) (w : Str), valV (mp m) (Sum.inr w : Key) = if w ∈ keys m then some (V.int (num m w)) else none
  | [], w => by rw [if_neg (by intro h; cases h)]; rfl
  | x :: m, w => by
    by_cases hx : x.1 = w
    · rw [if_pos (show w ∈ keys (x :: m) by rw [← hx]; exact List.mem_cons_self)]
      show valV ((Sum.inr x.1, V.int x.2) :: mp m) (Sum.inr w : Key) = some (V.int (if x.1 = w then x.2 else num m w))
      rw [if_pos hx]
      exact valV_pos (congrArg Sum.inr hx)
    · show valV ((Sum.inr x.1, V.int x.2) :: mp m) (Sum.inr w : Key) = _
      rw [valV_neg (show ¬ (Sum.inr x.1 : Key) = Sum.inr w from fun z => hx (Sum.inr.inj z)), val_mp m w]
      show (if w ∈ keys m then some (V.int (num m w)) else none) = if w ∈ x.1 :: keys m then some (V.int (if x.1 = w then x.2 else num m w)) else none
      rw [if_neg hx]
      by_cases h : w ∈ keys m
      · rw [if_pos h, if_pos (List.mem_cons_of_mem _ h)]
      · rw [if_neg h, if_neg (by
          intro z
          rcases List.mem_cons.1 z with z | z
          · exact hx z.symm
          · exact h z)]
theorem put_mp (m : List (Str × Int)) (w : Str) (n : Int) (hn : (keys m).Nodup) : putK (mp m) (Sum.inr w : Key) (V.int n) = mp (mput m w n) := by
  induction m with
  | nil => rfl
  | cons x m ih =>
    have ih := ih (List.nodup_cons.1 hn).2
    have hv := val_mp (x :: m) w
    by_cases hx : x.1 = w
    · unfold mput
      rw [if_pos hx]
      unfold putK
      rw [if_pos (by rw [valV_any, hv, if_pos (show w ∈ keys (x :: m) by rw [← hx]; exact List.mem_cons_self)]; rfl)]
      show _ :: _ = _ :: _
      have hw : ¬ w ∈ keys m := by rw [← hx]; exact (List.nodup_cons.1 hn).1
      congr 1
      · show (if (Sum.inr x.1 : Key) = Sum.inr w then (Sum.inr x.1, V.int n) else (Sum.inr x.1, V.int x.2)) = _
        rw [if_pos (congrArg Sum.inr hx)]
      · show (mp m).map _ = mp m
        rw [List.map_map]
        apply List.map_congr_left
        intro y hy
        show (if (Sum.inr y.1 : Key) = Sum.inr w then (Sum.inr y.1, V.int n) else (Sum.inr y.1, V.int y.2)) = _
        rw [if_neg (fun z => hw (by rw [← Sum.inr.inj z]; exact List.mem_map_of_mem hy))]
    · unfold mput
      rw [if_neg hx]
      show putK ((Sum.inr x.1, V.int x.2) :: mp m) _ _ = (Sum.inr x.1, V.int x.2) :: mp (mput m w n)
      rw [← ih]
      have hne : ¬ (Sum.inr x.1 : Key) = Sum.inr w := fun z => hx (Sum.inr.inj z)
      unfold putK
      rw [List.any_cons, decide_eq_false hne, Bool.false_or]
      by_cases ha : ((mp m).any fun kv => decide (kv.1 = (Sum.inr w : Key))) = true
      · rw [if_pos ha, if_pos ha, List.map_cons]
        congr 1
        show (if (Sum.inr x.1 : Key) = Sum.inr w then _ else _) = _
        rw [if_neg hne]
      · rw [if_neg ha, if_neg ha]; rfl
theorem num_none {m : List (Str × Int)} {w : Str} (h : ¬ w ∈ keys m) : num m w = 0 := by
  induction m with
  | nil => rfl
  | cons x m ih =>
    show (if x.1 = w then x.2 else num m w) = 0
    rw [if_neg (fun z => h (by rw [← z]; exact List.mem_cons_self)), ih (fun z => h (List.mem_cons_of_mem _ z))]
theorem num_in {m : List (Str × Int)} (hn : (keys m).Nodup) {x : Str × Int} (h : x ∈ m) : num m x.1 = x.2 := by
  induction m with
  | nil => cases h
  | cons y m ih =>
    show (if y.1 = x.1 then y.2 else num m x.1) = x.2
    rcases List.mem_cons.1 h with h | h
    · rw [h, if_pos rfl]
    · rw [if_neg (fun z => (List.nodup_cons.1 hn).1 (by show y.1 ∈ keys m; rw [z]; exact List.mem_map_of_mem h))]
      exact ih (List.nodup_cons.1 hn).2 h
theorem key_num {m : List (Str × Int)} (hn : (keys m).Nodup) {w : Str} (h : w ∈ keys m) : (w, num m w) ∈ m := by
  obtain ⟨x, hx, e⟩ := List.mem_map.1 h
  have q := num_in hn hx
  rw [← e, q]
  exact hx
/-- the sum of a word's numbers -/
def psum : List (Str × Int) → Str → Int
  | [], _ => 0
  | x :: ps, w => (if x.1 = w then x.2 else 0) + psum ps w
theorem psum_app : ∀ (ps qs : List (Str × Int)) (w : Str), psum (ps ++ qs) w = psum ps w + psum qs w
  | [], qs, w => by show _ = 0 + _; rw [Int.zero_add]; rfl
  | x :: ps, qs, w => by
    show _ + psum (ps ++ qs) w = _ + psum ps w + _
    rw [psum_app ps qs w, Int.add_assoc]
/-! steps -/
section
variable {σ : St} {H : Hp} {i j : Nat} {v x y z : V} {td ty tx tv : TE} {Q : VK} {l : List Asn} {d : Addr} {m : List (Str × Int)} {w : Str} {n : Int} {nx bk ct : St → Hp → Prop} {rt : VK} {RV : V → Prop} {RO : Option V → Prop} {RB : Bool → Prop} {RH : Hp → Prop}
theorem e_isd {e : Nat} {kvs : List (Key × V)} {R : Addr → Prop} (S : Sep l H) (hi : l[e]? = some (At d (.dK kvs))) (q : R d) : ∃ a, V.ref d = .ref a ∧ L2.IsD H a ∧ R a := ⟨d, rfl, .inl ⟨kvs, .inl (S.at hi)⟩, q⟩
theorem e_isdF {e : Nat} {kvs : List (Key × V)} {od : Obj} {R : Addr → Prop} (S : Sep l H) (hi : l[e]? = some (At d (.frz od (.dK kvs)))) (q : R d) : ∃ a, V.ref d = .ref a ∧ L2.IsD H a ∧ R a := ⟨d, rfl, .inl ⟨kvs, .inr ⟨od, S.at hi⟩⟩, q⟩
theorem dget_of {kvs : List (Key × V)} (h : Rd H d (.dK kvs)) : DGet H d (.str w) (valV kvs (Sum.inr w)) := .inl ⟨kvs, Sum.inr w, h, rfl, rfl⟩
theorem get0_of {R : Option V → Prop} (h : Rd H d (.dK (mp m))) (q : ∀ o : Option V, o.getD (.int 0) = .int (num m w) → R o) : ∃ o, DGet H d (.str w) o ∧ R o := ⟨_, dget_of h, q _ (by
  rw [val_mp]
  by_cases hw : w ∈ keys m
  · rw [if_pos hw]; rfl
  · rw [if_neg hw, num_none hw]; rfl)⟩
theorem e_get0 {e : Nat} {R : Option V → Prop} (S : Sep l H) (hi : l[e]? = some (At d (.dK (mp m)))) (q : ∀ o : Option V, o.getD (.int 0) = .int (num m w) → R o) : ∃ o, DGet H d (.str w) o ∧ R o := get0_of (.inl (S.at hi)) q
theorem e_get0F {e : Nat} {od : Obj} {R : Option V → Prop} (S : Sep l H) (hi : l[e]? = some (At d (.frz od (.dK (mp m))))) (q : ∀ o : Option V, o.getD (.int 0) = .int (num m w) → R o) : ∃ o, DGet H d (.str w) o ∧ R o := get0_of (.inr ⟨od, S.at hi⟩) q
theorem geti_of (h : Rd H d (.dK (mp m))) (hw : w ∈ keys m) (q : RV (.int (num m w))) : ∃ a v, V.ref d = .ref a ∧ DGet H a (.str w) (some v) ∧ RV v := ⟨d, _, rfl, by
  have e := dget_of (w := w) h
  rw [val_mp, if_pos hw] at e
  exact e, q⟩
theorem e_getI {e : Nat} (S : Sep l H) (hi : l[e]? = some (At d (.dK (mp m)))) (hw : w ∈ keys m) (q : RV (.int (num m w))) : ∃ a v, V.ref d = .ref a ∧ DGet H a (.str w) (some v) ∧ RV v := geti_of (.inl (S.at hi)) hw q
theorem e_getIF {e : Nat} {od : Obj} (S : Sep l H) (hi : l[e]? = some (At d (.frz od (.dK (mp m))))) (hw : w ∈ keys m) (q : RV (.int (num m w))) : ∃ a v, V.ref d = .ref a ∧ DGet H a (.str w) (some v) ∧ RV v := geti_of (.inr ⟨od, S.at hi⟩) hw q
theorem e_putI {e : Nat} (S : Sep l H) (hi : l[e]? = some (At d (.dK (mp m)))) (hn : (keys m).Nodup) (hz : m.length < 100000) (k : ∀ H', Sep (l.set e (At d (.dK (mp (mput m w n))))) H' → RH H') :
    ∃ a H4, V.ref d = .ref a ∧ DPut H a (.str w) (.int n) H4 ∧ RH H4 := by
  refine ⟨d, _, rfl, DPut.k (k := Sum.inr w) (S.at hi) (by rw [List.length_map]; exact Nat.lt_of_lt_of_le hz (by decide)), ?_⟩
  rw [put_mp m w n hn]
  exact k _ (S.upd hi fun _ z => nomatch z)
theorem e_in {e : Nat} (S : Sep l H) (hi : l[e]? = some (At d (.dK (mp m)))) (q : ∀ o : Option V, o.isSome = decide (w ∈ keys m) → RO o) : ∃ a o, V.ref d = .ref a ∧ DGet H a (.str w) o ∧ RO o := ⟨d, _, rfl, dget_of (.inl (S.at hi)), q _ (by
  rw [val_mp]
  by_cases hw : w ∈ keys m
  · rw [decide_eq_true hw, if_pos hw]; rfl
  · rw [decide_eq_false hw, if_neg hw]; rfl)⟩
theorem d_in (q : ty σ H fun y H1 => td σ H1 fun x H2 => ∃ a o, x = .ref a ∧ DGet H2 a y o ∧ Q (.bl o.isSome) H2) : tDIn ty td σ H Q := q
end

/-! more steps -/
theorem r_dnew {σ : St} {H : Hp} {Q : VK} (q : ∀ p, H p = none → Q (.ref p) (upd H p (.dK []))) : tDNewK σ H Q := q
theorem r_yes {σ : St} {H : Hp} {Q : Bool → Hp → Prop} (q : Q true H) : tYes σ H Q := q
theorem l_wipe {σ σ2 : St} {vs : List Nat} {P : Prop} (h : wipe σ2 vs = wipe σ vs) (q : P) : wipe σ2 vs = wipe σ vs ∧ P := ⟨h, q⟩
local macro_rules | `(tactic| walk_at "v1") => `(tactic| (first
  | with_reducible refine r_yes ?_
  | ((with_reducible refine l_wipe ?h ?_); (case h => rfl))
  | ((with_reducible refine' lc_put1 (by assumption) ?hi ?hz ?_); (case hi => walk_at "has"); (case hz => (first | decide | omega | (simp only [List.length_map, List.length_take, List.length_append]; omega))); (generalize hg : upd _ _ _ = H1); have S := upd_eqL (by assumption) (by walk_at "has") hg; clear hg; simp only [List.set] at S)
  | with_reducible refine r_forR1 ?_
  | with_reducible refine r_forR2 ?_
  | with_reducible refine r_forL ?_
  | with_reducible refine r_forT ?_
  | with_reducible refine r_forE ?_
  | with_reducible refine r_lcL ?_
  | with_reducible refine r_lcT ?_
  | with_reducible refine r_lcR1 ?_
  | with_reducible refine r_lcS ?_
  | with_reducible refine r_dnew ?_
  | with_reducible refine d_get2 ?_
  | with_reducible refine d_get ?_
  | with_reducible refine d_put ?_
  | with_reducible refine d_in ?_
  | ((with_reducible refine' g_tup (by assumption) ?hi ?hk ?_); (case hi => walk_at "has"); (case hk => rfl))
  | ((with_reducible refine' e_isd (by assumption) ?hi ?_); (case hi => walk_at "has"))
  | ((with_reducible refine' e_isdF (by assumption) ?hi ?_); (case hi => walk_at "has"))
  | ((with_reducible refine' e_get0 (by assumption) ?hi ?_); (case hi => walk_at "has"); (refine fun o ho => ?_); rw [ho]; clear ho)
  | ((with_reducible refine' e_get0F (by assumption) ?hi ?_); (case hi => walk_at "has"); (refine fun o ho => ?_); rw [ho]; clear ho)
  | ((with_reducible refine' e_getI (by assumption) ?hi (by assumption) ?_); (case hi => walk_at "has"))
  | ((with_reducible refine' e_getIF (by assumption) ?hi (by assumption) ?_); (case hi => walk_at "has"))
  | ((with_reducible refine' e_putI (by assumption) ?hi (by assumption) ?hz ?_); (case hi => walk_at "has"); (case hz => (first | decide | omega)); intro _ S; simp only [List.set] at S)
  | ((with_reducible refine' e_in (by assumption) ?hi ?_); (case hi => walk_at "has"); (refine fun o ho => ?_); rw [ho]; clear ho)))

/-! words in order; what is told of a number function -/
/-! ### the order of texts -/
def lt' (a b : Str) : Prop := PySem.Spec.ltCps a.cps.toList b.cps.toList = true
theorem ltc_irr : ∀ (a : List Nat), PySem.Spec.ltCps a a = false
  | [] => rfl
  | x :: r => by
    show (decide (x < x) || (x == x && PySem.Spec.ltCps r r)) = false
    rw [ltc_irr r]; simp
theorem ltc_tri : ∀ (a b : List Nat), PySem.Spec.ltCps a b = false → PySem.Spec.ltCps b a = false → a = b
  | [], [], _, _ => rfl
  | [], _ :: _, h, _ => by cases h
  | _ :: _, [], _, h => by cases h
  | x :: r, y :: t, h1, h2 => by
    have h1 : (decide (x < y) || (x == y && PySem.Spec.ltCps r t)) = false := h1
    have h2 : (decide (y < x) || (y == x && PySem.Spec.ltCps t r)) = false := h2
    simp only [Bool.or_eq_false_iff, decide_eq_false_iff_not, Bool.and_eq_false_iff, beq_eq_false_iff_ne] at h1 h2
    have e : x = y := by omega
    subst e
    rw [ltc_tri r t (h1.2.resolve_left (fun z => z rfl)) (h2.2.resolve_left (fun z => z rfl))]
theorem ltc_trans : ∀ (a b c : List Nat), PySem.Spec.ltCps a b = true → PySem.Spec.ltCps b c = true → PySem.Spec.ltCps a c = true
  | [], [], _, h, _ => by cases h
  | [], _ :: _, [], _, h => by cases h
  | [], _ :: _, _ :: _, _, _ => rfl
  | _ :: _, [], _, h, _ => by cases h
  | _ :: _, _ :: _, [], _, h => by cases h
  | x :: r, y :: t, z :: u, h1, h2 => by
    have h1 : (decide (x < y) || (x == y && PySem.Spec.ltCps r t)) = true := h1
    have h2 : (decide (y < z) || (y == z && PySem.Spec.ltCps t u)) = true := h2
    show (decide (x < z) || (x == z && PySem.Spec.ltCps r u)) = true
    simp only [Bool.or_eq_true, decide_eq_true_eq, Bool.and_eq_true, beq_iff_eq] at h1 h2 ⊢
    rcases h1 with h1 | ⟨e1, h1⟩
    · rcases h2 with h2 | ⟨e2, h2⟩
      · exact .inl (by omega)
      · exact .inl (by omega)
    · rcases h2 with h2 | ⟨e2, h2⟩
      · exact .inl (by omega)
      · exact .inr ⟨by omega, ltc_trans r t u h1 h2⟩
theorem str_ext {a b : Str} (h : a.cps.toList = b.cps.toList) : a = b := by
  cases a; cases b
  congr
  exact Array.ext' h
theorem lt_tri {a b : Str} (h : ¬ lt' a b) (h2 : ¬ lt' b a) : a = b :=
  str_ext (ltc_tri _ _ (Bool.eq_false_iff.2 h) (Bool.eq_false_iff.2 h2))
theorem lt_irr (a : Str) : ¬ lt' a a := by
  unfold lt'
  rw [ltc_irr]
  exact Bool.false_ne_true
theorem lt_trans' {a b c : Str} (h : lt' a b) (h2 : lt' b c) : lt' a c := ltc_trans _ _ _ h h2
/-- ascending, each once -/
def Asc (ws : List Str) : Prop := ws.Pairwise lt'
theorem asc_of_rising : ∀ (p : Str) (ws : List Str), PyProof.Rows.risingS p ws = true → (p :: ws).Nodup → Asc (p :: ws)
  | p, [], _, _ => List.pairwise_singleton _ _
  | p, x :: r, h, hn => by
    have h : (!PySem.Spec.ltCps x.cps.toList p.cps.toList && PyProof.Rows.risingS x r) = true := h
    simp only [Bool.and_eq_true, Bool.not_eq_true'] at h
    have ih := asc_of_rising x r h.2 (List.nodup_cons.1 hn).2
    have hpx : lt' p x := Classical.byContradiction fun z => by
      have e := lt_tri z (by unfold lt'; rw [h.1]; exact Bool.false_ne_true)
      exact (List.nodup_cons.1 hn).1 (by rw [e]; exact List.mem_cons_self)
    refine List.pairwise_cons.2 ⟨fun y hy => ?_, ih⟩
    rcases List.mem_cons.1 hy with rfl | hy
    · exact hpx
    · exact lt_trans' hpx ((List.pairwise_cons.1 ih).1 y hy)
theorem asc_of_sorted {ws : List Str} (h : PyProof.Rows.sortedS ws = true) (hn : ws.Nodup) : Asc ws := by
  cases ws with
  | nil => exact List.Pairwise.nil
  | cons p r => exact asc_of_rising p r h hn
theorem asc_same : ∀ {xs ys : List Str}, Asc xs → Asc ys → (∀ w, w ∈ xs ↔ w ∈ ys) → xs = ys
  | [], [], _, _, _ => rfl
  | [], y :: ys, _, _, h => by cases (h y).2 List.mem_cons_self
  | x :: xs, [], _, _, h => by cases (h x).1 List.mem_cons_self
  | x :: xs, y :: ys, hx, hy, h => by
    obtain ⟨hx1, hx2⟩ := List.pairwise_cons.1 hx
    obtain ⟨hy1, hy2⟩ := List.pairwise_cons.1 hy
    have e : x = y := by
      rcases List.mem_cons.1 ((h x).1 List.mem_cons_self) with e | m1
      · exact e
      · rcases List.mem_cons.1 ((h y).2 List.mem_cons_self) with e | m2
        · exact e.symm
        · exact (lt_irr x (lt_trans' (hx1 y m2) (hy1 x m1))).elim
    subst e
    rw [asc_same hx2 hy2 fun w => ?_]
    constructor
    · intro m
      rcases List.mem_cons.1 ((h w).1 (List.mem_cons_of_mem _ m)) with rfl | q
      · exact (lt_irr w (hx1 w m)).elim
      · exact q
    · intro m
      rcases List.mem_cons.1 ((h w).2 (List.mem_cons_of_mem _ m)) with rfl | q
      · exact (lt_irr w (hy1 w m)).elim
      · exact q
/-- L is what is told of the numbers g: the words with a number that is not 0, ascending -/
def Told (g : Str → Int) (L : List (Str × Int)) : Prop := Asc (keys L) ∧ (∀ w, w ∈ keys L ↔ g w ≠ 0) ∧ ∀ x ∈ L, x.2 = g x.1
theorem told_same {g : Str → Int} {L M : List (Str × Int)} (h : Told g L) (h2 : Told g M) : L = M := by
  have e : keys L = keys M := asc_same h.1 h2.1 fun w => by rw [h.2.1 w, h2.2.1 w]
  have r : ∀ {L : List (Str × Int)}, (∀ x ∈ L, x.2 = g x.1) → L = (keys L).map fun w => (w, g w) := fun {L} q => by
    unfold keys
    rw [List.map_map]
    conv => lhs; rw [← List.map_id L]
    apply List.map_congr_left
    intro x hx
    show x = (x.1, g x.1)
    rw [← q x hx]
  rw [r h.2.2, r h2.2.2, e]
/-- the words of a dict in order, those without a number left out -/
def toldOf (m : List (Str × Int)) (ws : List Str) : List (Str × Int) := (ws.filter fun w => decide (num m w ≠ 0)).map fun w => (w, num m w)
theorem told_of {m : List (Str × Int)} {ws : List Str} (hs : Asc ws) (hw : ∀ w, w ∈ ws ↔ w ∈ keys m) : Told (num m) (toldOf m ws) := by
  have ek : keys (toldOf m ws) = ws.filter fun w => decide (num m w ≠ 0) := by
    unfold keys toldOf
    rw [List.map_map]
    conv => rhs; rw [← List.map_id (ws.filter _)]
    exact List.map_congr_left fun _ _ => rfl
  refine ⟨?_, fun w => ?_, fun x hx => ?_⟩
  · rw [ek]
    exact List.Pairwise.filter _ hs
  · rw [ek, List.mem_filter, decide_eq_true_eq, hw]
    refine ⟨fun h => h.2, fun h => ⟨Classical.byContradiction fun z => h (num_none z), h⟩⟩
  · obtain ⟨w, _, rfl⟩ := List.mem_map.1 hx
    rfl
theorem take_snoc {α : Type} {l : List α} {i : Nat} {x : α} (h : l[i]? = some x) : l.take (i + 1) = l.take i ++ [x] := by rw [List.take_add_one, h]; rfl
/-! steps -/
section
variable {σ : St} {H : Hp} {Q : VK} {l : List Asn} {p : Addr} {ws : List Str} {K : PySem.W.Frag}
def gSorted (K : PySem.W.Frag) : List V → Hp → VK → Prop := rSortedS K
theorem call_gSorted {X : Cx} {K : PySem.W.Frag} (hK : X.K = K) : CallR X (.builtin "sorted") (gSorted K) := by rw [← hK]; exact cr_sortedS
theorem c_sorted {e : Nat} (S : Sep l H) (hi : l[e]? = some (At p (.lst (ws.map V.str)))) (hz : ws.length < 64) (k : ∀ (ys : List Str) d H', ys.Perm ws → PyProof.Rows.sortedS ys = true → Sep (At d (.lst (ys.map V.str)) :: l) H' → Q (.ref d) H') : gSorted K [.ref p] H Q :=
  ⟨p, ws, rfl, SqL.of (S.at hi), hz, fun ys d h1 h2 hd => k ys d _ h1 h2 (S.new hd)⟩
def gStrS : List V → Hp → VK → Prop := fun xs H Q => ∃ a, xs = [.str a] ∧ Q (.str a) H
theorem call_gStrS {X : Cx} : CallR X (.type "str") gStrS := SkE.call_str_str
theorem c_strS {w : Str} (q : Q (.str w) H) : gStrS [.str w] H Q := ⟨w, rfl, q⟩
end
local macro_rules | `(tactic| walk_at "v1") => `(tactic| (with_reducible refine c_strS ?_))

/-! isinstance -/
def gIsi (K : PySem.W.Frag) : List V → Hp → VK → Prop := fun xs H Q => rIsi K xs H Q ∨ rIsiT K xs H Q
theorem call_gIsi {X : Cx} {K : PySem.W.Frag} (hK : X.K = K) : CallR X (.builtin "isinstance") (gIsi K) := by rw [← hK]; exact CallR.or call_isi call_isiT
section
variable {K : PySem.W.Frag} {H : Hp} {Q : VK} {l : List Asn} {x : V} {n : Int} {s : Str} {b : Bool} {p : Addr} {xs : List V}
theorem i_one {t u : Value} {c : V} (hc : ClsV c u) (hx : TyX K H x t) (h : PySem.W.kitOne K t u = some b) (q : Q (.bl b) H) : gIsi K [x, c] H Q := .inl ⟨x, c, t, u, b, rfl, hc, hx, h, q⟩
theorem i_ty {a T : String} (hx : TyX K H x (.type a)) (h : kitB a T = some b) (q : Q (.bl b) H) : gIsi K [x, .ty T] H Q := i_one (.ty T) hx (kit_ty h) q
theorem k_ii : kitB "int" "int" = some true := by decide +kernel
theorem k_ib : kitB "int" "bool" = some false := by decide +kernel
theorem k_is : kitB "int" "str" = some false := by decide +kernel
theorem k_ss : kitB "str" "str" = some true := by decide +kernel
theorem k_si : kitB "str" "int" = some false := by decide +kernel
theorem k_sb : kitB "str" "bool" = some false := by decide +kernel
theorem k_bi : kitB "bool" "int" = some true := by decide +kernel
theorem k_bb : kitB "bool" "bool" = some true := by decide +kernel
theorem k_bs : kitB "bool" "str" = some false := by decide +kernel
theorem k_ll : kitB "list" "list" = some true := by decide +kernel
theorem k_lt : kitB "list" "tuple" = some false := by decide +kernel
theorem k_li : kitB "list" "int" = some false := by decide +kernel
theorem k_ls : kitB "list" "str" = some false := by decide +kernel
theorem k_tt : kitB "tuple" "tuple" = some true := by decide +kernel
theorem k_tl : kitB "tuple" "list" = some false := by decide +kernel
theorem k_ti : kitB "tuple" "int" = some false := by decide +kernel
theorem k_ts : kitB "tuple" "str" = some false := by decide +kernel
theorem k_ni : kitB "NoneType" "int" = some false := by decide +kernel
theorem k_ns : kitB "NoneType" "str" = some false := by decide +kernel
theorem k_nt : kitB "NoneType" "tuple" = some false := by decide +kernel
theorem k_nl : kitB "NoneType" "list" = some false := by decide +kernel
theorem k_nb : kitB "NoneType" "bool" = some false := by decide +kernel
theorem k_it : kitB "int" "tuple" = some false := by decide +kernel
theorem k_il : kitB "int" "list" = some false := by decide +kernel
theorem k_st : kitB "str" "tuple" = some false := by decide +kernel
theorem k_sl : kitB "str" "list" = some false := by decide +kernel
theorem i_int {T : String} (h : kitB "int" T = some b) (q : Q (.bl b) H) : gIsi K [.int n, .ty T] H Q := i_ty (.base (.int n)) h q
theorem i_str {T : String} (h : kitB "str" T = some b) (q : Q (.bl b) H) : gIsi K [.str s, .ty T] H Q := i_ty (.base (.str s)) h q
theorem i_bl {T : String} {c : Bool} (h : kitB "bool" T = some b) (q : Q (.bl b) H) : gIsi K [.bl c, .ty T] H Q := i_ty (.base (.bl c)) h q
theorem i_non {T : String} (h : kitB "NoneType" T = some b) (q : Q (.bl b) H) : gIsi K [.non, .ty T] H Q := i_ty (.base .non) h q
theorem i_lst {T : String} {e : Nat} (S : Sep l H) (hi : l[e]? = some (At p (.lst xs))) (h : kitB "list" T = some b) (q : Q (.bl b) H) : gIsi K [.ref p, .ty T] H Q := i_ty (.base (.lst (S.at hi))) h q
theorem i_tup {T : String} {e : Nat} (S : Sep l H) (hi : l[e]? = some (Tp p xs)) (h : kitB "tuple" T = some b) (q : Q (.bl b) H) : gIsi K [.ref p, .ty T] H Q := i_ty (.base (.tup (S.tp hi))) h q
end
local macro_rules | `(tactic| walk_at "kb") => `(tactic| (first | exact k_ii | exact k_ib | exact k_is | exact k_ss | exact k_si | exact k_sb | exact k_bi | exact k_bb | exact k_bs | exact k_ll | exact k_lt | exact k_li | exact k_ls | exact k_tt | exact k_tl | exact k_ti | exact k_ts | exact k_ni | exact k_ns | exact k_nt | exact k_nl | exact k_nb | exact k_it | exact k_il | exact k_st | exact k_sl))
local macro_rules | `(tactic| walk_at "v1") => `(tactic| (first
  | ((with_reducible refine' i_int ?hb ?_); (case hb => walk_at "kb"))
  | ((with_reducible refine' i_str ?hb ?_); (case hb => walk_at "kb"))
  | ((with_reducible refine' i_bl ?hb ?_); (case hb => walk_at "kb"))
  | ((with_reducible refine' i_non ?hb ?_); (case hb => walk_at "kb"))
  | ((with_reducible refine' i_lst (by assumption) ?hi ?hb ?_); (case hi => walk_at "has"); (case hb => walk_at "kb"))
  | ((with_reducible refine' i_tup (by assumption) ?hi ?hb ?_); (case hi => walk_at "has"); (case hb => walk_at "kb"))))

/-! enumerate over a tuple; a def read off a class -/
section
open PyProof.Rows
theorem meets_enum1 {v : Value} {o : Obj} {H : Heap → Prop} (B : Begins v o H) :
    Meets (Builtin.«enumerate.__new__» ⟨[.type "enumerate", v], []⟩) (fun _ R s => H s.heap ∧
      R (.ok (.ret (.ref (s.heap.push o).objs.size))) { s with heap := (s.heap.push o).push { cls := .type "enumerate", data := .fields #[.none, .bool false, .ref s.heap.objs.size, rawInt 0, .none, .none] } }) :=
  .of_wp fun prog w A R s h => by
    obtain ⟨hp, g, d, tk, os⟩ := s; obtain ⟨h1, h⟩ := h
    have hsub := sub_enumerate
    have q1 : ∀ {A' : Around} {E : Value → Shared → Prop} {Q : Value → Shared → Prop}, Q (.ref hp.objs.size) ⟨hp.push o, g, d, tk, os⟩ → wpAny (model prog w) A' (pyIter v) Q E ⟨hp, g, d, tk, os⟩ :=
      fun q => B.iter prog w _ _ ⟨hp, g, d, tk, os⟩ _ h1 q
    wp_walk using q1
    refine wpAny_stack_any fun st => wpAny_pure ?_
    split
    · rename_i c _ _ _ _ _
      cases (c == Value.type "enumerate")
      · wp_walk using q1
        exact ⟨_, rfl, h⟩
      · wp_walk using q1
        exact ⟨_, rfl, h⟩
    · wp_walk using q1
      exact ⟨_, rfl, h⟩
theorem enum_begins1 {prog : Program} {w : World} {A : Around} {E : Value → Shared → Prop} {s : Shared} {v : Value} {o : Obj} {H : Heap → Prop} {Q : Value → Shared → Prop} (B : Begins v o H) (h1 : H s.heap)
    (h : ∀ h', IsEnum h' (s.heap.objs.size + 1) s.heap.objs.size 0 .none → h'.get? s.heap.objs.size = some o → h'.objs.size = s.heap.objs.size + 2 →
      (∀ b o, s.heap.get? b = some o → h'.get? b = some o) → Q (.ref (s.heap.objs.size + 1)) { s with heap := h' }) :
    wpAny (model prog w) A (call (.type "enumerate") [v]) Q E s := by
  refine callType_new F.called_enumerate (by decide) (F.typeCall_enumerate_1 _) (F.newCall_enumerate_1 _) (fun obj => F.args_object_init_2 obj _) F.entry_enumerate_new
    (meets_enum1 B) ⟨h1, ?_⟩
  have hz : (s.heap.push o).objs.size = s.heap.objs.size + 1 := Heap.size_push ..
  show _ ∧ _
  rw [hz]
  have he : IsEnum ((s.heap.push o).push { cls := .type "enumerate", data := .fields #[.none, .bool false, .ref s.heap.objs.size, rawInt 0, .none, .none] }) (s.heap.objs.size + 1) s.heap.objs.size 0 .none := by
    have := Heap.get?_push_size (s.heap.push o) (o := { cls := .type "enumerate", data := .fields #[.none, .bool false, .ref s.heap.objs.size, rawInt 0, .none, .none] }) rfl
    rw [hz] at this; exact this
  refine ⟨⟨_, he, rfl⟩, h _ he (Heap.get?_push_of_some _ (Heap.get?_push_size _ B.free)) (by rw [Heap.size_push, hz]) fun b o x => Heap.get?_push_of_some _ (Heap.get?_push_of_some _ x)⟩
/-- the tuple at a, the items in new pairs with their places -/
def IteT (K : PySem.W.Frag) (a : Addr) : It :=
  ⟨fun i H => ∃ (xs : List V) (x : V), SqT K H a xs ∧ xs[i]? = some x, fun i H v H' => ∃ T x, v = .ref T ∧ H T = none ∧ H' = upd H T (.tup [.int (i : Nat), x]) ∧ ∀ xs, SqT K H a xs → xs[i]? = some x, fun i H => ∃ xs : List V, SqT K H a xs ∧ xs.length ≤ i⟩
theorem turn_enumT {P : Program} {w : World} {K : PySem.W.Frag} {elts : List Expr} {kk : Nat} {tpos : Pos} (a e it : Addr) :
    Turn P w K (.Tuple elts kk tpos) (IteT K a) [e, it] e (fun i h => (∃ old, IsEnum h e it ((i : Nat) : Int) old) ∧ h.IsTupleIter it a i ∧ e ≠ it) where
  mem := by simp
  obj := fun i h st b hb => by
    obtain ⟨⟨old, he⟩, ⟨o, ho, hc, hd⟩, _⟩ := st
    have e' : b = e ∨ b = it := by simpa using hb
    rcases e' with z | z
    · rw [z]; exact ⟨_, he, fun v q => nomatch q⟩
    · rw [z]; exact ⟨o, ho, fun v q => by rw [hd] at q; cases q⟩
  keep := fun i h h' st k => let ⟨⟨old, he⟩, hi, hne⟩ := st; ⟨⟨old, k e (by simp) _ he⟩, hi.at fun o q => k it (by simp) o q, hne⟩
  item := by
    intro X hP hw hK hc i pins s σ H E I hf st hg
    subst hP hw hK
    obtain ⟨⟨old, he⟩, hit, hne⟩ := st
    obtain ⟨xs, x, hq, hx⟩ := hg
    obtain ⟨its, rv, p, hz⟩ := I.tuple hq
    have p' : s.heap.IsTuple a its.toArray := p
    obtain ⟨u, hu, ru⟩ := rv.get hx
    have hel : e < s.heap.objs.size := Heap.lt_size he
    have hil : it < s.heap.objs.size := by obtain ⟨_, q, _⟩ := hit; exact Heap.lt_size q
    have hea : e ≠ a := fun z => by
      obtain ⟨o, ho, hc', _⟩ := id p'
      rw [← z] at ho
      have := he.symm.trans ho
      cases this
      exact absurd (Value.type.inj hc') (by decide)
    have hia : a ≠ it := fun z => by
      obtain ⟨o, ho, hc', _⟩ := id p'
      obtain ⟨o2, ho2, hc2, _⟩ := id hit
      rw [z] at ho
      have q := ho.symm.trans ho2
      cases q
      rw [hc'] at hc2
      exact absurd (Value.type.inj hc2) (by decide)
    have D := Draws.tuple (prog := X.prog) (w := X.w) (A := X.A.in1) (I.ok.hd hc) it a hia its.toArray
    have hil' : i < its.toArray.size := by
      rw [List.size_toArray]
      exact (List.getElem?_eq_some_iff.mp hu).1
    refine wpAny_pyNext_enum_itemD D he ⟨hit, p'⟩ hil' hne (by simp [hne, hea]) fun y h' tk hy ho hst' hT hsz hk => ?_
    obtain rfl : y = u := by
      have e1 : its.toArray[i]? = some u := by simpa using hu
      rw [e1] at hy
      exact (Option.some.inj hy).symm
    refine ⟨_, rfl, wpAny_letOwnedTupleGo_enum (s := { s with heap := h', toks := tk + 1 }) ho fun h'' he' sb => ?_⟩
    have hT2 : h''.get? s.heap.objs.size = some { cls := .type "tuple", data := .seq #[.int i tk, y] } := (sb.2 _ (Nat.ne_of_gt hel)).trans hT
    have new : ObjOk X.prog X.w (upd H s.heap.objs.size (.tup [.int (i : Nat), x])) h'' s.heap.objs.size (.tup [.int (i : Nat), x]) :=
      ⟨by show 2 ≤ sizeLine; decide, [.int i tk, y], .cons ⟨_, rfl⟩ (.cons ru .nil), ⟨_, hT2, rfl, _, rfl⟩⟩
    have I1 : Inv X pins σ (upd H s.heap.objs.size (.tup [.int (i : Nat), x])) { s with heap := h'', toks := tk + 1 } :=
      I.turnedNew (ch := [e, it]) (fun b ob hb q => (sb.2 b (fun z => hb (by simp [z]))).trans (hk b ob (fun z => hb (by simp [z])) (fun z => hb (by simp [z])) q)) hf (Nat.le_refl _) new
    refine ⟨.ref s.heap.objs.size, _, I1, rfl, ⟨_, x, rfl, I.hok.fresh (Nat.le_refl _), rfl, fun ys hy => by rw [I.tuple_inj hy hq]; exact hx⟩, ⟨⟨y, ?_⟩, hst'.1.at fun o q => (sb.2 it (Ne.symm hne)).trans q, hne⟩, fun b hb => ?_⟩
    · have e1 : ((i + 1 : Nat) : Int) = (i : Int) + 1 := by omega
      rw [e1]; exact he'
    · have hb' : b < s.heap.objs.size := by
        have e' : b = e ∨ b = it := by simpa using hb
        rcases e' with z | z
        · rw [z]; exact hel
        · rw [z]; exact hil
      rw [upd_ne (Nat.ne_of_lt hb')]
      exact (hf b hb).1
  done := by
    intro X hP hw hK hc i pins s σ H E I hf st hg
    subst hP hw hK
    obtain ⟨⟨old, he⟩, hit, hne⟩ := st
    obtain ⟨xs, hq, hx⟩ := hg
    obtain ⟨its, rv, p, hz⟩ := I.tuple hq
    have p' : s.heap.IsTuple a its.toArray := p
    have hl := rv.length
    have hia : a ≠ it := fun z => by
      obtain ⟨o, ho, hc', _⟩ := id p'
      obtain ⟨o2, ho2, hc2, _⟩ := id hit
      rw [z] at ho
      have q := ho.symm.trans ho2
      cases q
      rw [hc'] at hc2
      exact absurd (Value.type.inj hc2) (by decide)
    obtain ⟨f0, f1, f2, f3, f4, f5⟩ := hf it (by simp)
    have hT : s.TypeIs (.ref e) "enumerate" := ⟨_, he, rfl⟩
    unfold pyNext
    refine wpAny_bind (wpAny_attempt (wpAny_callSpecial?_slot (name := Str.ofString "__next__") hT F.slot_enumerate_next
      (wpAny_call_entry F.slot_enumerate_next hT F.entry_enumerate_next ?_ (F.args_enumerate_next_1 _))))
    show wpAny _ _ (field (.ref e) 2 >>= _) _ _ _
    refine wpAny_bind (wpAny_field he rfl (x := .ref it) rfl ?_)
    refine wpAny_bind (wpAny_nextOf_tuple_end (I.ok.hd hc) hit p' (by simp; omega) fun h' x he' hx' => ?_)
    obtain ⟨o, ho, hc2⟩ := hx'
    refine wpAny_bind (wpAny_isInstance (T := "StopIteration") (b := true) ⟨o, ho, hc2⟩ isSubtype_stop ?_)
    exact wpAny_pure ⟨rfl, I.turned (t' := s.toks) (fun b o hb q => he' b o hb q) f0 f1 f3 f4 f5⟩
  self := fun A i s Q E st h => let ⟨⟨_, he⟩, _⟩ := st; wpAny_pyIter_enum he h
def iEnumT (K : PySem.W.Frag) (ta : TA) : TI := fun σ H R => ta σ H fun vs H1 => ∃ a xs, vs = [.ref a] ∧ SqT K H1 a xs ∧ R (IteT K a) H1
theorem pi_enumT {X : Cx} {K : PySem.W.Frag} (hK : X.K = K) {e : Expr} {ta : TA} {p pos tpos : Pos} {elts : List Expr} {kk : Nat} (hg : Gl X "enumerate") (hm : X.mg "enumerate" = none) (ha : PA X [e] ta) (hs : starEach [e] X.env = [(false, eval e X.env)] := by rfl) :
    PI X (.Tuple elts kk tpos) (.Call (.Name "enumerate" p) [e] [] pos) (iEnumT K ta) := by
  subst hK
  refine ⟨fun pins s σ H R I h => ?_⟩
  refine Call_ (ld_blt I hg hm boot_enumerate (PyProof.Rows.callWith_type1 (thn (ha.run pos pins s σ H _ I h) fun us s1 ⟨vs, H1, I1, r1, q1⟩ => ?_) hs rfl))
  obtain ⟨a, xs, ex, hq, q⟩ := q1
  subst ex
  cases r1 with
  | cons r rr =>
    cases rr
    cases r
    obtain ⟨its, rv, p', hz⟩ := I1.tuple hq
    refine enum_begins1 (begins_tuple a its.toArray) p' fun h' he hit hsz hk => wpAny_pyIter_enum he ?_
    have I2 : Inv X pins σ H1 { s1 with heap := h' } := I1.kept (t' := s1.toks) hk
    refine ⟨s1.heap.objs.size + 1, [s1.heap.objs.size + 1, s1.heap.objs.size], _, _, H1, rfl, I2, turn_enumT a (s1.heap.objs.size + 1) s1.heap.objs.size, ⟨⟨.none, he⟩, ⟨_, hit, rfl, rfl⟩, Nat.succ_ne_self _⟩, fun b hb => ?_, q⟩
    have e' : b = s1.heap.objs.size + 1 ∨ b = s1.heap.objs.size := by simpa using hb
    have hle : s1.heap.objs.size ≤ b := by
      rcases e' with z | z
      · rw [z]; exact Nat.le_add_right _ _
      · rw [z]; exact Nat.le_refl _
    exact I1.fpOk hle (I1.hok.fresh hle)
/-! C.m(e, ..), m a def of C's body -/
def tUnb (C : Addr) (sp : Sp) (E : XK) (ta : TE) (t : TA) : TE := fun σ H Q => ta σ H fun x H1 => x = .ref C ∧ t σ H1 fun vs H2 => sp vs H2 Q E
theorem pe_unb {X : Cx} {CX : CXT} {k : Nat} {C f : Addr} {mc : Value} {sp : Sp} {E : XK} {o e : Expr} {es : List Expr} {m : Str} {pos apos : Pos} {ta : TE} {t : TA} {pl : Sem Bool}
    (he : PE X o ta) (r : ClX.CRead X.K C mc) (at_ : PySem.W.findCls X.K (.ref C) mc m = some (.val (.ref f))) (kp : PySem.W.keepIn X.K (.ref f) = true) (F : FnR X.prog X.w X.K X.mg X.base CX k f sp) (hr : Room k X.A) (hx : Passes CX X E) (ha : PA X (e :: es) t)
    (hst : starEach (e :: es) X.env = (false, eval e X.env) :: starEach es X.env := by rfl) (hpl : (backTo pos (starEach es X.env)).any (·.1) = false := by rfl)
    (ht : eval (.Call (.Attribute o m apos) (e :: es) [] pos) X.env = (do
      let ov ← eval o X.env
      standAt apos.atName
      let (f, first) ← holding [ov] (getMethod ov m pl)
      callWith pos f first (backTo pos (starEach (e :: es) X.env)) (backToKw pos (keywordEach [] X.env))) := by rfl) :
    PE X (.Call (.Attribute o m apos) (e :: es) [] pos) (tUnb C sp E ta t) := by
  refine ⟨fun pins s σ H Q I h => ?_⟩
  refine PySem.W.methodCall_KW (pl := pl) (thn (he.run pins s σ H _ I h) fun u s1 ⟨x, H1, I1, rx, ex, q⟩ => ?_) ht
  subst ex
  obtain rfl : u = Value.ref C := rx
  refine PySem.W.method_cls I1.kIn r.ga ?_
  refine PySem.W.cls_value I1.kIn r.rd at_ (handed_of (v := .ref f) rfl) ?_
  refine PySem.W.callWith_K (h₀ := X.base) I1.ok.mod.kin kp (thn (ha.run pos pins _ σ H1 _ (I1.tok _) q) fun us s3 ⟨vs, H2, I3, rv, q2⟩ => ⟨I3.kIn, ?_⟩) hst hpl
  exact wpAny_call (run_fnR F hr hx I3 rv q2)

end
/-! instances -/
section
open PyProof.Rows
/-- an instance of the class at C -/
def Ob (p C : Addr) (fs : List (Str × V)) : Asn := Exs fun dx : Addr => Pk [At p (.ins C dx fs), At dx (.own p)]
structure Kl (K : PySem.W.Frag) (C : Addr) (ns : List Str) : Prop where
  c : Cls K C
  n : ∀ f ∈ ns, NoAttr K C f
/-- what isinstance asks of a class -/
structure Ki (K : PySem.W.Frag) (C : Addr) : Prop where
  ha : PySem.W.findIn K (.ref C) "__class__" = some (some (.builtin "object.__class__"))
  hn : PySem.W.specialIn K (.builtin "object.__class__") "__get__" = some (some (.builtin "getset_descriptor.__get__"))
  ht : PySem.W.takesIn K (.builtin "object.__class__") = some true
  hm : PySem.W.mroIn K C (.type "object") = some true
theorem lk0 {f : Str} {v : V} {r : List (Str × V)} : List.lookup f ((f, v) :: r) = some v := by
  show (match f == f with | true => some v | false => _) = _
  rw [beq_self_eq_true]
theorem lkS {f g : Str} {v x : V} {r : List (Str × V)} (h : (f == g) = false) (q : List.lookup f r = some v) : List.lookup f ((g, x) :: r) = some v := by
  show (match f == g with | true => some x | false => List.lookup f r) = _
  rw [h]; exact q
theorem putF0 {f : Str} {v : V} : putF f v [] = [(f, v)] := rfl
theorem putFS {f g : Str} {v x : V} {r : List (Str × V)} (h : ¬ g = f) : putF f v ((g, x) :: r) = (g, x) :: putF f v r := by
  show (if g = f then _ else _) = _
  rw [if_neg h]
theorem putFT {f g : Str} {v x : V} {r r2 : List (Str × V)} (h : ¬ g = f) (q : putF f v r = r2) : putF f v ((g, x) :: r) = (g, x) :: r2 := by rw [putFS h, q]
theorem putFE {f : Str} {v x : V} {r : List (Str × V)} : putF f v ((f, x) :: r) = (f, v) :: r := by
  show (if f = f then _ else _) = _
  rw [if_pos rfl]
section
variable {l : List Asn} {H : Hp} {p C dx : Addr} {fs : List (Str × V)} {f : Str} {v y : V} {Q : VK} {K : PySem.W.Frag} {ns : List Str} {e : Nat} {σ : L2.St}
theorem ob_open (S : Sep (Ob p C fs :: l) H) : ∃ dx, Sep (At p (.ins C dx fs) :: At dx (.own p) :: l) H := by
  obtain ⟨dx, S⟩ := S.ex
  exact ⟨dx, S.open'⟩
theorem ob_close (S : Sep (At p (.ins C dx fs) :: At dx (.own p) :: l) H) : Sep (Ob p C fs :: l) H := Sep.ex' (x := dx) (Sep.close' (l := [_, _]) S)
theorem ob_at (S : Sep l H) (hi : l[e]? = some (Ob p C fs)) : ∃ dx, H p = some (.ins C dx fs) := by
  obtain ⟨dx, S'⟩ := ob_open (S.pick hi)
  exact ⟨dx, S'.at (i := 0) rfl⟩
/-- an attribute is read -/
def gFldR (K : PySem.W.Frag) (f : Str) (x : V) (H : Hp) (Q : VK) : Prop := ∃ a C dx fs v, x = .ref a ∧ H a = some (.ins C dx fs) ∧ Cls K C ∧ NoAttr K C f ∧ fs.lookup f = some v ∧ Q v H
/-- an attribute is stored -/
def gFldW (K : PySem.W.Frag) (f : Str) (x y : V) (H : Hp) (R : Hp → Prop) : Prop := ∃ a C dx fs, x = .ref a ∧ H a = some (.ins C dx fs) ∧ Cls K C ∧ NoAttr K C f ∧ fs.length < 1000 ∧ R (upd H a (.ins C dx (putF f y fs)))
theorem f_get (S : Sep l H) (hi : l[e]? = some (Ob p C fs)) (hC : Kl K C ns) (hf : f ∈ ns) (hl : fs.lookup f = some v) (q : Q v H) :
    gFldR K f (.ref p) H Q := by
  obtain ⟨dx, h⟩ := ob_at S hi
  exact ⟨p, C, dx, fs, v, rfl, h, hC.c, hC.n f hf, hl, q⟩
theorem f_put {R : Hp → Prop} (S : Sep l H) (hi : l[e]? = some (Ob p C fs)) (hC : Kl K C ns) (hf : f ∈ ns) (hz : fs.length < 1000) {fs2 : List (Str × V)} (he : putF f y fs = fs2) (k : ∀ H', Sep (l.set e (Ob p C fs2)) H' → R H') :
    gFldW K f (.ref p) y H R := by
  obtain ⟨dx, S1⟩ := ob_open (S.pick hi)
  have h := S1.at (i := 0) rfl
  have S2 := S1.upd0 (o' := .ins C dx fs2) (fun _ z => nomatch z)
  rw [he.symm] at S2 k
  exact ⟨p, C, dx, fs, rfl, h, hC.c, hC.n f hf, hz, k _ (Sep.back hi (ob_close S2))⟩
theorem n_make {P : Addr → Hp → Prop} (S : Sep l H) (k : ∀ x H', Sep (Ob x C [] :: l) H' → P x H') : ∀ x dx, H x = none → H dx = none → dx ≠ x → P x (upd (upd H dx (.own x)) x (.ins C dx [])) := by
  intro x dx hx hdx hne
  refine k x _ (ob_close (dx := dx) ?_)
  have S1 := S.new (o := .own x) hdx
  have hx' : (upd H dx (.own x)) x = none := by rw [upd_ne (Ne.symm hne)]; exact hx
  exact S1.new hx'
theorem r_fldS {ta tv : TE} {nx bk ct : L2.St → Hp → Prop} {rt : VK} (q : tv σ H fun y H1 => ta σ H1 fun x H2 => gFldW K f x y H2 fun H3 => nx σ H3) :
    sFld K ta tv f ⟨nx, rt, bk, ct⟩ σ H := q
theorem r_fld {ta : TE} (q : ta σ H fun x H1 => gFldR K f x H1 Q) : tFld K ta f σ H Q := q
theorem ps_gFld {X : Cx} (hK : X.K = K) {o value : Expr} {pos' pos : Pos} {ta tv : TE} (ha : PE X o ta) (hv : PE X value tv) (hs : swapsWith value (some (.Attribute o f pos')) pos.line X.env = pure false) : PS X (.Assign [.Attribute o f pos'] value pos) (sFld K ta tv f) := by
  rw [← hK]; exact ps_fld ha hv hs
theorem r_make {sp : Sp} {E : XK} {t : TA} (q : t σ H fun vs H1 => ∀ x dx, H1 x = Option.none → H1 dx = Option.none → dx ≠ x → sp (V.ref x :: vs) (upd (upd H1 dx (.own x)) x (.ins C dx [])) (fun v H2 => v = .non ∧ Q (.ref x) H2) E) : StX.tMakeR C sp E t σ H Q := q
theorem r_unb {sp : Sp} {E : XK} {ta : TE} {t : TA} (q : ta σ H fun x H1 => x = .ref C ∧ t σ H1 fun vs H2 => sp vs H2 Q E) : tUnb C sp E ta t σ H Q := q
/-- isinstance(x, C), x an instance -/
theorem i_ob {D : Addr} {b : Bool} (S : Sep l H) (hi : l[e]? = some (Ob p C fs)) (hC : Kl K C ns) (ki : Ki K C) (hk : PySem.W.kitOne K (.ref C) (.ref D) = some b) (q : Q (.bl b) H) : gIsi K [.ref p, .ref D] H Q := by
  obtain ⟨dx, h⟩ := ob_at S hi
  exact i_one (.own D) (.base (.ins h hC.c ki.ha ki.hn ki.ht ki.hm)) hk q
theorem i_obT {T : String} {b : Bool} (S : Sep l H) (hi : l[e]? = some (Ob p C fs)) (hC : Kl K C ns) (ki : Ki K C) (hk : PySem.W.kitOne K (.ref C) (.type T) = some b) (q : Q (.bl b) H) : gIsi K [.ref p, .ty T] H Q := by
  obtain ⟨dx, h⟩ := ob_at S hi
  exact i_one (.ty T) (.base (.ins h hC.c ki.ha ki.hn ki.ht ki.hm)) hk q
end
end
local macro_rules | `(tactic| walk_at "lk") => `(tactic| (first | exact lk0 | exact lkS (by decide +kernel) lk0 | exact lkS (by decide +kernel) (lkS (by decide +kernel) lk0) | exact lkS (by decide +kernel) (lkS (by decide +kernel) (lkS (by decide +kernel) lk0)) | exact lkS (by decide +kernel) (lkS (by decide +kernel) (lkS (by decide +kernel) (lkS (by decide +kernel) lk0)))))
local macro_rules | `(tactic| walk_at "putF") => `(tactic| (first | exact putF0 | exact putFE | exact putFT (by decide +kernel) putF0 | exact putFT (by decide +kernel) putFE | exact putFT (by decide +kernel) (putFT (by decide +kernel) putF0) | exact putFT (by decide +kernel) (putFT (by decide +kernel) putFE) | exact putFT (by decide +kernel) (putFT (by decide +kernel) (putFT (by decide +kernel) putF0))))
local macro_rules | `(tactic| walk_at "v1") => `(tactic| (first
  | with_reducible refine r_fld ?_
  | with_reducible refine r_fldS ?_
  | with_reducible refine r_make ?_
  | with_reducible refine r_unb ?_
  | ((with_reducible refine' f_get (by assumption) ?hi ?hC ?hf ?hl ?_); (case hi => walk_at "has"); (case hC => assumption); (case hf => decide +kernel); (case hl => walk_at "lk"))
  | ((with_reducible refine' f_put (by assumption) ?hi ?hC ?hf ?hz ?he ?_); (case hi => walk_at "has"); (case hC => assumption); (case hf => decide +kernel); (case hz => (simp only [List.length_cons, List.length_nil]; decide)); (case he => walk_at "putF"); intro _ S; simp only [List.set] at S)))

/-! kinds -/
def abcS : Str := "abcdefghijklmnopqrstuvwxyz"
def sg (j : Nat) : Str := ⟨#[97 + j]⟩
def barredL : List Str := ["hold", "look", "do", "row", "one", "all", "new", "give", "take", "join", "other", "if", "and", "or", "then", "gone"]
def wordsL : List Str := ["self", "at", "to", "exactly", "least", "most", "from", "rule", "door", "limit", "begin", "store", "loose"]
theorem wordsL_wd : ∀ w ∈ wordsL, Wd w := by decide +kernel
def Kd (w : Str) : Prop := Wd w ∧ w ∉ barredL
instance (w : Str) : Decidable (Kd w) := by unfold Kd; infer_instance
theorem abc_at : ∀ j, j < 26 → abc[j]? = some (97 + j) := by decide +kernel
theorem abc_mem {c : Nat} : c ∈ abc ↔ 97 ≤ c ∧ c < 123 := by
  constructor
  · intro h
    have : ∀ c ∈ abc, 97 ≤ c ∧ c < 123 := by decide +kernel
    exact this c h
  · intro h
    have e := abc_at (c - 97) (by omega)
    have e2 : 97 + (c - 97) = c := by omega
    rw [e2] at e
    exact List.mem_of_getElem? e
theorem abc_index : ∀ j, j < 26 → Builtin.Str.occurrences abcS (sg j) 0 26 1 = [j] := by decide +kernel
theorem abcS_at {n : Int} {m : Nat} (e : n = (m : Int)) (hm : m < 26) : atI abcS.cps.toList n = some (97 + m) := by
  subst e
  have hl : abcS.cps.toList.length = 26 := by decide +kernel
  unfold atI ixN
  rw [if_pos (by omega), if_pos (by omega)]
  exact abc_at m hm
theorem str_inj {a b : Str} (h : a.cps.toList = b.cps.toList) : a = b := by
  cases a; cases b
  congr 1
  exact Array.toList_inj.1 h
/-- a word by its last sign -/
theorem word_split {w : Str} (h : Wd w) : ∃ (p : Str) (j : Nat), w = p ++ sg j ∧ j < 26 ∧ p.length ≤ 7 ∧ ∀ c ∈ p.cps.toList, c ∈ abc := by
  obtain ⟨h1, h2, h3⟩ := h
  have hl : w.cps.toList.length = w.length := by simp [Str.length]
  have hne : w.cps.toList ≠ [] := fun z => by rw [z] at hl; simp at hl; omega
  obtain ⟨j0, hj⟩ : ∃ c, c = w.cps.toList.getLast hne := ⟨_, rfl⟩
  have hm : j0 ∈ abc := by rw [hj]; exact h3 _ (List.getLast_mem hne)
  have hb := abc_mem.1 hm
  refine ⟨⟨w.cps.toList.dropLast.toArray⟩, j0 - 97, str_inj ?_, by omega, ?_, fun c hc => ?_⟩
  · rw [str_app]
    show w.cps.toList = w.cps.toList.dropLast.toArray.toList ++ [97 + (j0 - 97)]
    have e : 97 + (j0 - 97) = j0 := by omega
    rw [e, hj]
    exact (List.dropLast_concat_getLast hne).symm
  · show w.cps.toList.dropLast.toArray.size ≤ 7
    simp only [List.size_toArray, List.length_dropLast]
    omega
  · have hc' : c ∈ w.cps.toList.dropLast := by simpa using hc
    exact h3 c (List.dropLast_subset _ hc')
theorem word_join {p : Str} {j : Nat} (hj : j < 26) (hp : p.length ≤ 7) (hc : ∀ c ∈ p.cps.toList, c ∈ abc) : Wd (p ++ sg j) := by
  refine ⟨?_, ?_, fun c h => ?_⟩
  · rw [str_len_app]; show 1 ≤ p.length + 1; omega
  · rw [str_len_app]; show p.length + 1 ≤ 8; omega
  · rw [str_app] at h
    rcases List.mem_append.1 h with h | h
    · exact hc c h
    · have e : c = 97 + j := List.mem_singleton.1 h
      rw [abc_mem]; omega
theorem last_at {p : Str} {j : Nat} : atI (p ++ sg j).cps.toList (-1) = some (97 + j) := by
  rw [str_app]
  show atI (p.cps.toList ++ [97 + j]) (-1) = _
  unfold atI ixN
  rw [if_neg (by decide), if_pos (by simp; omega)]
  simp only [Option.bind_some, List.length_append, List.length_singleton]
  have e : ((-1 : Int) + ((p.cps.toList.length + 1 : Nat) : Int)).toNat = p.cps.toList.length := by omega
  rw [e, List.getElem?_append_right (Nat.le_refl _)]
  simp
theorem sIx_m1 (n : Nat) : HT.sIx (n + 1) (n + 1) (some (-1)) = n := by
  unfold HT.sIx
  simp
  omega
theorem cut_last {p : Str} {j : Nat} : cutS (p ++ sg j) none (some (-1)) = p := by
  apply str_inj
  unfold cutS
  have hl : (p ++ sg j).length = p.cps.toList.length + 1 := by rw [str_len_app]; simp [Str.length]; rfl
  rw [hl, sIx_m1, HT.sIx_none, str_app]
  simp
theorem pre_inj {p : Str} {a b : Nat} (h : p ++ sg a = p ++ sg b) : a = b := by
  have e := congrArg (fun x : Str => x.cps.toList) h
  simp only [str_app] at e
  have e2 := List.append_cancel_left e
  have e3 : 97 + a = 97 + b := by
    have := List.cons.inj e2
    exact this.1
  omega
theorem nodup_le {α : Type} [DecidableEq α] : ∀ {l m : List α}, l.Nodup → (∀ x ∈ l, x ∈ m) → l.length ≤ m.length
  | [], m, _, _ => Nat.zero_le _
  | x :: l, m, hn, hs => by
    have hx := hs x List.mem_cons_self
    have hn' := List.nodup_cons.1 hn
    have ih := nodup_le (l := l) (m := m.erase x) hn'.2 fun y hy => by
      have hne : y ≠ x := fun z => hn'.1 (z ▸ hy)
      exact (List.mem_erase_of_ne hne).2 (hs y (List.mem_cons_of_mem _ hy))
    rw [List.length_erase_of_mem hx] at ih
    have : 0 < m.length := List.length_pos_of_mem hx
    show l.length + 1 ≤ m.length
    omega
/-- among 26 last signs one is free -/
theorem free_one {p : Str} {j0 : Nat} {m : List Str} (hm : m.length ≤ 25) (h : ∀ k, k < 26 → p ++ sg ((j0 + k) % 26) ∈ m) : False := by
  have hn : ((List.range 26).map fun k => p ++ sg ((j0 + k) % 26)).Nodup := by
    show List.Pairwise _ _
    rw [List.pairwise_map]
    refine List.Pairwise.imp_of_mem (R := fun a b => a ≠ b) (fun {a b} ha hb hab z => ?_) (List.nodup_range (n := 26))
    have e := pre_inj z
    have ha' := List.mem_range.1 ha
    have hb' := List.mem_range.1 hb
    omega
  have := nodup_le hn (m := m) fun x hx => by
    obtain ⟨k, hk, rfl⟩ := List.mem_map.1 hx
    exact h k (List.mem_range.1 hk)
  simp at this
  omega
theorem Sep.fr1' {A B : Asn} {l : List Asn} {H : Hp} {j : Nat} (e : l[j]? = some B) (S : Sep (A :: l) H) : Sep (A :: B :: l.eraseIdx j) H := (S.pick (i := j + 1) e).bk1
theorem Sep.bk1' {A B : Asn} {l : List Asn} {H : Hp} {j : Nat} (e : l[j]? = some B) (S : Sep (A :: B :: l.eraseIdx j) H) : Sep (A :: l) H := Sep.backS (l := A :: l) (i := j + 1) e S.fr1
section
variable {l : List Asn} {H : Hp} {p : Addr} {K : PySem.W.Frag} {Q : VK} {e : Nat} {xs : List V} {ws : List Str} {w : Str}
theorem flat_strs : ∀ ws : List Str, (ws.map V.str).all flatV = true
  | [] => rfl
  | _ :: ws => flat_strs ws
theorem eqV_str {a b : Str} : eqV (.str a) (.str b) = decide (a = b) := by
  show (a == b) = _
  by_cases h : a = b
  · rw [decide_eq_true h, h]; exact beq_self_eq_true b
  · rw [decide_eq_false h]; exact beq_eq_false_iff_ne.2 h
theorem inV_strs {w : Str} : ∀ ws : List Str, inV (.str w) (ws.map V.str) = decide (w ∈ ws)
  | [] => rfl
  | a :: ws => by
    show (eqV (.str a) (.str w) || inV (.str w) (ws.map V.str)) = _
    rw [inV_strs ws, eqV_str]
    by_cases h : a = w
    · simp [h]
    · have h' : ¬ w = a := fun z => h z.symm
      simp [h, h']
theorem in_strs (S : Sep l H) (hi : l[e]? = some (At p (.lst (ws.map V.str)))) (q : Q (.bl (decide (w ∈ ws))) H) : gIn K false (.str w) (.ref p) H Q :=
  .inl ⟨p, _, rfl, .inl (SqL.of (S.at hi)), rfl, flat_strs ws, by
    show Q (.bl (inV (.str w) (ws.map V.str))) H
    rw [inV_strs]; exact q⟩
theorem nin_strs (S : Sep l H) (hi : l[e]? = some (At p (.lst (ws.map V.str)))) (q : Q (.bl (!decide (w ∈ ws))) H) : gIn K true (.str w) (.ref p) H Q :=
  .inl ⟨p, _, rfl, .inl (SqL.of (S.at hi)), rfl, flat_strs ws, by
    show Q (.bl (!inV (.str w) (ws.map V.str))) H
    rw [inV_strs]; exact q⟩
theorem in_tups (h : SqT K H p (ws.map V.str)) (q : Q (.bl (decide (w ∈ ws))) H) : gIn K false (.str w) (.ref p) H Q :=
  .inl ⟨p, _, rfl, .inr h, rfl, flat_strs ws, by
    show Q (.bl (inV (.str w) (ws.map V.str))) H
    rw [inV_strs]; exact q⟩
theorem nin_tups (h : SqT K H p (ws.map V.str)) (q : Q (.bl (!decide (w ∈ ws))) H) : gIn K true (.str w) (.ref p) H Q :=
  .inl ⟨p, _, rfl, .inr h, rfl, flat_strs ws, by
    show Q (.bl (!inV (.str w) (ws.map V.str))) H
    rw [inV_strs]; exact q⟩
theorem m_tyS {R : Prop} (q : R) : tyV K "str" (.str w) H ∧ R := ⟨rfl, q⟩
def gSIndex : V → List V → Hp → VK → Prop := fun x xs H Q => ∃ a b i rest, x = .str a ∧ xs = [.str b] ∧ Builtin.Str.occurrences a b 0 a.length 1 = i :: rest ∧ Q (.int (i : Nat)) H
theorem mt_gSIndex {X : Cx} : MtR X "str.index" gSIndex := mt_sindex
theorem m_sindex {j : Nat} (hj : j < 26) (q : Q (.int (j : Nat)) H) : gSIndex (.str abcS) [.str (sg j)] H Q := ⟨abcS, sg j, j, [], rfl, rfl, abc_index j hj, q⟩
end

/-! constants, stars, tuples, all and any -/
section
open PyProof.Rows
theorem pe_globE {X : Cx} {x : Str} {v : V} {pos : Pos} (hg : Gl X x) (h : ∃ u, X.mg x = some u ∧ RelV v u) (hd : (x == ("__debug__" : Str)) = false := by decide) : PE X (.Name x pos) (tC v) :=
  h.elim fun _ h => pe_glob hg h.1 h.2 hd
/-- the promise of a def whose last parameter takes what is left over -/
def stSp (n : Nat) (sp : Sp) : Sp := fun vs H Q E => ∃ ws rest, vs = ws ++ rest ∧ ws.length = n ∧ rest.length ≤ sizeLine ∧ ∀ p, H p = Option.none → sp (ws ++ [V.ref p]) (upd H p (.tup rest)) Q E
theorem fun_star {P : Program} {w : World} {K : PySem.W.Frag} {mg : Str → Option Value} {base : Heap} {x qual : Str} {st : Stmt} {f : Addr} {fd : FuncData} {N ps : List Str} {pv : Str} {k : Nat} {sp : Sp} (F : Fun K x qual st f fd) (S : FnScope N (ps ++ [pv]) (defScope st))
    (hb : ∀ (kV doc pm : Value) (an : Option Addr) (cdv ct : Value) (us rest : List Value), us.length = ps.length → bindArgs (PySem.W.fnOf x qual (defArgs st) (defBody st) (defScope st) .none kV doc pm an cdv ct) ⟨us ++ rest, []⟩ = (newTuple rest >>= fun t => pure (ps.zip us ++ [(pv, t)])))
    (hbody : ∀ (cdv : Value) (A : Around) (outer : List Env) (s : Shared) (H : Hp) (vs : List V) (Q : VK) (E : XK), Room k (A.deeper (envOfC qual (defScope st) s.heap.objs.size f cdv)) → sp vs H Q E →
      ∃ t, PSs (cxOf CX0 P w K mg base N qual (defScope st) f cdv A outer s H E).nox (defBody st) t ∧ t { nx := fun _ H' => Q .non H', rt := Q } (start N vs) H) : FnR P w K mg base CX0 (k + 1) f (stSp ps.length sp) := by
  obtain ⟨oc, od, kV, doc, pm, an, cdv, ct, osl, rfl, lk, hcd⟩ := F.ex
  refine StX.fn_star lk hcd S StX.cxUp_none (hb kV doc pm an cdv ct) fun A outer s H vs Q E hr hsp => ?_
  obtain ⟨t, h, q⟩ := hbody cdv A outer s H vs Q E hr hsp
  exact ⟨t, h.nox, q⟩
theorem raw0 {P : Program} {w : World} {K : PySem.W.Frag} {mg : Str → Option Value} {base : Heap} {CX : CXT} {k : Nat} {f : Addr} {fd : FuncData} {ps : List Str} {sp : Sp} (F : FnOk P w K mg base CX k f fd ps sp) (hb : Binds K fd ps []) : FnR P w K mg base CX k f sp :=
  (F.raw hb .nil).imp fun vs H Q E h => by rw [List.append_nil]; exact h
theorem StX.bind_star3 {B : List Value → Sem (List (Str × Value))} {p1 p2 p3 pv : Str} (h0 : ∀ a b c, B [a, b, c] = (newTuple [] >>= fun t => pure [(p1, a), (p2, b), (p3, c), (pv, t)])) (h1 : ∀ a b c r rs, B (a :: b :: c :: r :: rs) = (newTuple (r :: rs) >>= fun t => pure [(p1, a), (p2, b), (p3, c), (pv, t)])) :
    ∀ us rest : List Value, us.length = [p1, p2, p3].length → B (us ++ rest) = (newTuple rest >>= fun t => pure ([p1, p2, p3].zip us ++ [(pv, t)]))
  | [a, b, c], [], _ => h0 a b c
  | [a, b, c], r :: rs, _ => h1 a b c r rs
section
variable {l : List Asn} {H : Hp} {p : Addr} {K : PySem.W.Frag} {Q : VK} {e : Nat} {xs : List V} {E : XK} {σ : L2.St} {g : TG} {tb : TS} {nx bk ct : L2.St → Hp → Prop} {rt : VK} {te : TE} {tA : TA}
/-- a call with something left over -/
theorem st_call {ws rest : List V} {sp : Sp} (S : Sep l H) (hz : rest.length ≤ 1000) (k : ∀ t H', Sep (Tp t rest :: l) H' → sp (ws ++ [V.ref t]) H' Q E) : stSp ws.length sp (ws ++ rest) H Q E :=
  ⟨ws, rest, rfl, rfl, Nat.le_trans hz (by decide), fun t ht => k t _ (S.newT ht)⟩
theorem sl_gTup {X : Cx} (hK : X.K = K) : SlR X (rSlT K) := by rw [← hK]; exact sl_tup
theorem s_tup {lo hi : Option Int} (S : Sep l H) (he : l[e]? = some (Tp p xs)) (hw : ¬ (HT.sIx xs.length 0 lo = 0 ∧ HT.sIx xs.length xs.length hi = xs.length)) (k : ∀ d H', Sep (Tp d (cutV xs lo hi) :: l) H' → Q (.ref d) H') : rSlT K (.ref p) lo hi H Q :=
  ⟨p, xs, rfl, SqT.of (S.tp he), hw, fun d hd => k d _ (S.newT hd)⟩
def gTuple (K : PySem.W.Frag) : List V → Hp → VK → Prop := fun xs H Q => ∃ p ys, xs = [.ref p] ∧ ((SqL K H p ys ∧ ∀ l, H l = none → Q (.ref l) (upd H l (.tup ys))) ∨ (SqT K H p ys ∧ Q (.ref p) H))
theorem call_gTuple {X : Cx} (hK : X.K = K) : CallR X (.type "tuple") (gTuple K) := by rw [← hK]; exact call_tuple_of
theorem c_tupT (S : Sep l H) (hi : l[e]? = some (Tp p xs)) (q : Q (.ref p) H) : gTuple K [.ref p] H Q := ⟨p, xs, rfl, .inr ⟨SqT.of (S.tp hi), q⟩⟩
theorem c_tupL (S : Sep l H) (hi : l[e]? = some (At p (.lst xs))) (k : ∀ d H', Sep (Tp d xs :: l) H' → Q (.ref d) H') : gTuple K [.ref p] H Q := ⟨p, xs, rfl, .inl ⟨SqL.of (S.at hi), fun d hd => k d _ (S.newT hd)⟩⟩
def gAll (K : PySem.W.Frag) : List V → Hp → VK → Prop := rAll K
def gAny (K : PySem.W.Frag) : List V → Hp → VK → Prop := rAny K
theorem call_gAll {X : Cx} (hK : X.K = K) (hc : X.calm = true) : CallR X (.builtin "all") (gAll K) := by rw [← hK]; exact cr_all hc
theorem call_gAny {X : Cx} (hK : X.K = K) (hc : X.calm = true) : CallR X (.builtin "any") (gAny K) := by rw [← hK]; exact cr_any hc
theorem c_all {bs : List Bool} (S : Sep l H) (hi : l[e]? = some (At p (.lst (bs.map V.bl)))) (q : Q (.bl (bs.all id)) H) : gAll K [.ref p] H Q := ⟨p, bs, rfl, SqL.of (S.at hi), q⟩
theorem c_any {bs : List Bool} (S : Sep l H) (hi : l[e]? = some (At p (.lst (bs.map V.bl)))) (q : Q (.bl (bs.any id)) H) : gAny K [.ref p] H Q := ⟨p, bs, rfl, SqL.of (S.at hi), q⟩
theorem in_sign {c : Nat} {z : Str} (q : Q (.bl (decide (c ∈ z.cps.toList))) H) : gIn K false (.str ⟨#[c]⟩) (.str z) H Q := .inr ⟨c, z, rfl, rfl, q⟩
/-- for x in t, t a tuple -/
theorem forT (S : Sep l H) (hi : l[e]? = some (Tp p xs)) (Pv : Nat → L2.St → Hp → Prop) (h0 : Pv 0 σ H) (hl : ∀ i σ H, Pv i σ H → H p = some (.tup xs))
    (hs : ∀ i x σ H, xs[i]? = some x → Pv i σ H → g x σ H fun σ2 H2 => tb ⟨Pv (i + 1), rt, nx, Pv (i + 1)⟩ σ2 H2) (hd : ∀ σ H, Pv xs.length σ H → nx σ H) :
    ∃ a, V.ref p = .ref a ∧ (∃ xs, SqT K H a xs) ∧ ForB (Itt K a) g tb ⟨nx, rt, bk, ct⟩ σ H :=
  ⟨p, rfl, ⟨xs, SqT.of (S.tp hi)⟩, for_tup (K := K) (D := ⟨nx, rt, bk, ct⟩) Pv h0 (fun i σ H _ q => SqT.of (hl i σ H q)) hs hd⟩
theorem r_forET (q : tA σ H fun vs H1 => ∃ a xs, vs = [.ref a] ∧ SqT K H1 a xs ∧ ForB (IteT K a) g tb ⟨nx, rt, bk, ct⟩ σ H1) : tFor (iEnumT K tA) g tb ⟨nx, rt, bk, ct⟩ σ H := q
/-- for i, x in enumerate(t), t a tuple -/
theorem forET (S : Sep l H) (hi : l[e]? = some (Tp p xs)) (Pv : Nat → L2.St → Hp → Prop) (h0 : Pv 0 σ H) (hl : ∀ i σ H, Pv i σ H → H p = some (.tup xs))
    (hs : ∀ i x T σ H H', xs[i]? = some x → Pv i σ H → H T = none → H' = upd H T (.tup [.int (i : Nat), x]) → g (.ref T) σ H' fun σ2 H2 => tb ⟨Pv (i + 1), rt, nx, Pv (i + 1)⟩ σ2 H2) (hd : ∀ σ H, Pv xs.length σ H → nx σ H) :
    ∃ a ys, [V.ref p] = [.ref a] ∧ SqT K H a ys ∧ ForB (IteT K a) g tb ⟨nx, rt, bk, ct⟩ σ H := by
  refine ⟨p, xs, rfl, SqT.of (S.tp hi), fun i m σ H => m = xs.length - i ∧ i ≤ xs.length ∧ Pv i σ H, ⟨xs.length, by simp, Nat.zero_le _, h0⟩, ?_⟩
  rintro i m σ H ⟨rfl, hi, q⟩
  have hq : SqT K H p xs := SqT.of (hl i σ H q)
  by_cases hlt : i < xs.length
  · refine .inr ⟨⟨xs, xs[i], hq, by simp [hlt]⟩, Pv (i + 1), fun σ' H' p' => ⟨xs.length - (i + 1), by omega, rfl, hlt, p'⟩, fun x H' y => ?_⟩
    obtain ⟨T, z, rfl, hn, rfl, f⟩ := y
    exact hs i z T σ H _ (f xs hq) q hn rfl
  · have e : i = xs.length := by omega
    subst e
    exact .inl ⟨⟨xs, hq, Nat.le_refl _⟩, hd σ H q⟩
end
end
local macro_rules | `(tactic| walk_at "v1") => `(tactic| (first
  | with_reducible refine r_forET ?_
  | with_reducible refine in_sign ?_
  | ((with_reducible refine' c_tupT (by assumption) ?hi ?_); (case hi => walk_at "has"))
  | ((with_reducible refine' c_tupL (by assumption) ?hi ?_); (case hi => walk_at "has"); intro _ _ _)
  | ((with_reducible refine' in_strs (by assumption) ?hi ?_); (case hi => walk_at "has"))
  | ((with_reducible refine' nin_strs (by assumption) ?hi ?_); (case hi => walk_at "has"))
  | ((with_reducible refine' c_all (by assumption) ?hi ?_); (case hi => walk_at "has"))
  | ((with_reducible refine' c_any (by assumption) ?hi ?_); (case hi => walk_at "has"))))

/-! rules -/
/-- the numbers of a rule -/
def Ends (ns : List Int) : Prop := (∀ n ∈ ns, 0 ≤ n ∧ n ≤ 9) ∧ ((∃ a, ns = [a]) ∨ ∃ a b, ns = [a, b] ∧ a ≤ b)
def Kds (ks : List Str) : Prop := 1 ≤ ks.length ∧ ks.length ≤ 3 ∧ ks.Nodup ∧ ∀ w ∈ ks, Kd w
theorem cut_pre {xs : List V} {i : Nat} (h : i ≤ xs.length) : cutV xs none (some (i : Int)) = xs.take i := by
  unfold cutV
  rw [HT.sIx_none, HT.sIx_nat, Nat.min_eq_left h, Nat.sub_zero]
  rfl
theorem Kd.len {w : Str} (h : Kd w) : w.length ≤ 8 := h.1.2.1
/-- a rule at p -/
def Ru (p C : Addr) (a b : V) (ks : List V) : Asn := Exs fun t : Addr => Pk [Ob p C [("least", a), ("most", b), ("kinds", .ref t)], Tp t ks]
theorem ru_open {p C : Addr} {a b : V} {ks : List V} {l : List Asn} {H : Hp} (S : Sep (Ru p C a b ks :: l) H) : ∃ t, Sep (Ob p C [("least", a), ("most", b), ("kinds", .ref t)] :: Tp t ks :: l) H := by
  obtain ⟨t, S⟩ := S.ex
  exact ⟨t, S.open'⟩
theorem ru_close {p C t : Addr} {a b : V} {ks : List V} {l : List Asn} {H : Hp} (S : Sep (Ob p C [("least", a), ("most", b), ("kinds", .ref t)] :: Tp t ks :: l) H) : Sep (Ru p C a b ks :: l) H := Sep.ex' (x := t) (Sep.close' (l := [_, _]) S)
abbrev rNs : List Str := ["least", "most", "kinds"]

/-! equality of data -/
def dStrs (ws : List Str) : List PyData := ws.map PyData.str
theorem shaped_all {ds : List PyData} (h : ∀ d ∈ ds, d.canLay0 = true ∧ d.depth = 0) : PyData.canLayAll0 ds = true ∧ PyData.depthAll ds = 0 := by
  induction ds with
  | nil => exact ⟨rfl, rfl⟩
  | cons d ds ih =>
    obtain ⟨h1, h2⟩ := h d List.mem_cons_self
    obtain ⟨i1, i2⟩ := ih fun x hx => h x (List.mem_cons_of_mem _ hx)
    refine ⟨by rw [PyData.canLayAll0, h1, i1]; rfl, ?_⟩
    rw [PyData.depthAll, h2, i2]; rfl
theorem shaped_tup {ds : List PyData} (h : ∀ d ∈ ds, d.canLay0 = true ∧ d.depth = 0) : SeqAt.shaped (.tuple ds) = true := by
  obtain ⟨h1, h2⟩ := shaped_all h
  unfold SeqAt.shaped
  rw [PyData.canLay0, h1, PyData.depth, h2]; rfl
theorem shaped_lst {ds : List PyData} (h : ∀ d ∈ ds, d.canLay0 = true ∧ d.depth = 0) : SeqAt.shaped (.list ds) = true := by
  obtain ⟨h1, h2⟩ := shaped_all h
  unfold SeqAt.shaped
  rw [PyData.canLay0, h1, PyData.depth, h2]; rfl
theorem strOk_word {w : Str} (h : Wd w) : PyData.strOk w = true := by
  unfold PyData.strOk
  rw [← Array.all_toList, List.all_eq_true]
  intro c hc
  have := abc_mem.1 (h.2.2 c hc)
  exact decide_eq_true (by omega)
theorem flat_dstrs {ws : List Str} (h : ∀ w ∈ ws, Wd w) : ∀ d ∈ dStrs ws, d.canLay0 = true ∧ d.depth = 0 := by
  intro d hd
  obtain ⟨w, hw, rfl⟩ := List.mem_map.1 hd
  exact ⟨by rw [PyData.canLay0]; exact strOk_word (h w hw), by rw [PyData.depth]⟩
theorem eqv_dstrs : ∀ ws us : List Str, PyData.eqvAll (dStrs ws) (dStrs us) = decide (ws = us)
  | [], [] => by simp [dStrs, PyData.eqvAll]
  | [], _ :: _ => by simp [dStrs, PyData.eqvAll]
  | _ :: _, [] => by simp [dStrs, PyData.eqvAll]
  | a :: ws, b :: us => by
    show PyData.eqvAll (.str a :: dStrs ws) (.str b :: dStrs us) = _
    rw [PyData.eqvAll, eqv_dstrs ws us, PyData.eqv]
    by_cases h : a = b
    · by_cases h2 : ws = us <;> simp [h, h2]
    · simp [h]
theorem dp_strs {K : PySem.W.Frag} {H : Hp} : ∀ ws : List Str, DpAll K H (ws.map V.str) (dStrs ws)
  | [] => .nil
  | w :: ws => .cons (.str w) (dp_strs ws)
theorem dp_bools {K : PySem.W.Frag} {H : Hp} : ∀ bs : List Bool, DpAll K H (bs.map V.bl) (bs.map PyData.bool)
  | [] => .nil
  | w :: ws => .cons (.bl w) (dp_bools ws)
theorem flat_bools {bs : List Bool} : ∀ d ∈ bs.map PyData.bool, d.canLay0 = true ∧ d.depth = 0 := by
  intro d hd
  obtain ⟨w, hw, rfl⟩ := List.mem_map.1 hd
  exact ⟨by rw [PyData.canLay0], by rw [PyData.depth]⟩
theorem eqv_bools : ∀ bs cs : List Bool, PyData.eqvAll (bs.map PyData.bool) (cs.map PyData.bool) = decide (bs = cs)
  | [], [] => by simp [PyData.eqvAll]
  | [], _ :: _ => by simp [PyData.eqvAll]
  | _ :: _, [] => by simp [PyData.eqvAll]
  | a :: ws, b :: us => by
    show PyData.eqvAll (.bool a :: ws.map PyData.bool) (.bool b :: us.map PyData.bool) = _
    rw [PyData.eqvAll, eqv_bools ws us, PyData.eqv]
    by_cases h : a = b
    · by_cases h2 : ws = us <;> simp [h, h2]
    · simp [h]
section
variable {l : List Asn} {H : Hp} {p p2 : Addr} {K : PySem.W.Frag} {Q : VK} {e e2 : Nat} {ws us : List Str} {bs cs : List Bool}
theorem eq_tups (S : Sep l H) (hi : l[e]? = some (Tp p (ws.map V.str))) (hj : l[e2]? = some (Tp p2 (us.map V.str))) (h1 : ∀ w ∈ ws, Wd w) (h2 : ∀ w ∈ us, Wd w) (q : Q (.bl (decide (ws = us))) H) : gEq K (.ref p) (.ref p2) H Q :=
  .inr ⟨.tuple (dStrs ws), .tuple (dStrs us), .tup (SqT.of (S.tp hi)) (dp_strs ws), .tup (SqT.of (S.tp hj)) (dp_strs us), shaped_tup (flat_dstrs h1), shaped_tup (flat_dstrs h2), by rw [PyData.eqv, eqv_dstrs]; exact q⟩
theorem ne_tups (S : Sep l H) (hi : l[e]? = some (Tp p (ws.map V.str))) (hj : l[e2]? = some (Tp p2 (us.map V.str))) (h1 : ∀ w ∈ ws, Wd w) (h2 : ∀ w ∈ us, Wd w) (q : Q (.bl (!decide (ws = us))) H) : gNe K (.ref p) (.ref p2) H Q :=
  .inr ⟨.tuple (dStrs ws), .tuple (dStrs us), .tup (SqT.of (S.tp hi)) (dp_strs ws), .tup (SqT.of (S.tp hj)) (dp_strs us), shaped_tup (flat_dstrs h1), shaped_tup (flat_dstrs h2), by rw [PyData.eqv, eqv_dstrs]; exact q⟩
theorem eq_bls (S : Sep l H) (hi : l[e]? = some (At p (.lst (bs.map V.bl)))) (hj : l[e2]? = some (At p2 (.lst (cs.map V.bl)))) (q : Q (.bl (decide (bs = cs))) H) : gEq K (.ref p) (.ref p2) H Q :=
  .inr ⟨.list (bs.map .bool), .list (cs.map .bool), .lst (SqL.of (S.at hi)) (dp_bools bs), .lst (SqL.of (S.at hj)) (dp_bools cs), shaped_lst flat_bools, shaped_lst flat_bools, by rw [PyData.eqv, eqv_bools]; exact q⟩
theorem ne_bls (S : Sep l H) (hi : l[e]? = some (At p (.lst (bs.map V.bl)))) (hj : l[e2]? = some (At p2 (.lst (cs.map V.bl)))) (q : Q (.bl (!decide (bs = cs))) H) : gNe K (.ref p) (.ref p2) H Q :=
  .inr ⟨.list (bs.map .bool), .list (cs.map .bool), .lst (SqL.of (S.at hi)) (dp_bools bs), .lst (SqL.of (S.at hj)) (dp_bools cs), shaped_lst flat_bools, shaped_lst flat_bools, by rw [PyData.eqv, eqv_bools]; exact q⟩
/-! rules -/
variable {C : Addr} {a b : V} {ks : List V}
theorem ru_least {f : Str} (hf : f = "least") (S : Sep l H) (hi : l[e]? = some (Ru p C a b ks)) (hC : Kl K C rNs) (q : Q a H) : gFldR K f (.ref p) H Q := by
  subst hf
  obtain ⟨t, S1⟩ := ru_open (S.pick hi)
  exact f_get S1 has0 hC (by decide +kernel) (by walk_at "lk") q
theorem ru_most {f : Str} (hf : f = "most") (S : Sep l H) (hi : l[e]? = some (Ru p C a b ks)) (hC : Kl K C rNs) (q : Q b H) : gFldR K f (.ref p) H Q := by
  subst hf
  obtain ⟨t, S1⟩ := ru_open (S.pick hi)
  exact f_get S1 has0 hC (by decide +kernel) (by walk_at "lk") q
theorem ru_kinds {f : Str} (hf : f = "kinds") (S : Sep l H) (hi : l[e]? = some (Ru p C a b ks)) (hC : Kl K C rNs) (k : ∀ t, Sep (Tp t ks :: l) H → Q (.ref t) H) : gFldR K f (.ref p) H Q := by
  subst hf
  obtain ⟨t, S1⟩ := ru_open (S.pick hi)
  exact f_get S1 has0 hC (by decide +kernel) (by walk_at "lk") (k t (S.addT (S1.tp (i := 1) rfl)))
end
theorem Sep.dropN : ∀ (n : Nat) {l : List Asn} {H : Hp}, Sep l H → Sep (l.drop n) H
  | 0, _, _, S => S
  | _ + 1, [], _, S => S
  | n + 1, _ :: _, _, S => Sep.dropN n S.tail
theorem Sep.keep {l : List Asn} {H : Hp} (S : Sep l H) : ∃ L, L = l ∧ Sep L H := ⟨l, rfl, S⟩
local macro_rules | `(tactic| walk_at "hasR") => `(tactic| (first | with_reducible exact has0 | ((with_reducible refine' hasS ?h2); (case h2 => walk_at "hasR")) | fail "has"))
local macro_rules | `(tactic| walk_at "hasD") => `(tactic| (first | exact has0 | ((with_reducible refine' hasS ?h2); (case h2 => walk_at "hasD")) | fail "has"))
local macro_rules | `(tactic| walk_at "has") => `(tactic| (first | walk_at "hasR" | walk_at "hasD" | fail "has"))
local macro_rules | `(tactic| walk_at "v1") => `(tactic| (first
  | ((with_reducible refine' ru_least ?hf (by assumption) ?hi ?hC ?_); (case hf => decide +kernel); (case hi => walk_at "has"); (case hC => assumption))
  | ((with_reducible refine' ru_most ?hf (by assumption) ?hi ?hC ?_); (case hf => decide +kernel); (case hi => walk_at "has"); (case hC => assumption))
  | ((with_reducible refine' ru_kinds ?hf (by assumption) ?hi ?hC ?_); (case hf => decide +kernel); (case hi => walk_at "has"); (case hC => assumption); intro _ _)))

/-! sorted by key=str: of a dict's keys, a tuple, a list -/
section
open PyProof.Rows
abbrev byStr : Str → Str → Bool := PySem.W.dataLe false (fun w : Str => PyData.str w)
theorem byStr_pairs (ks : List Str) : sortedS (ks.mergeSort byStr) = true := by
  refine sortedS_of_pairwise _ ?_
  have h := PySem.W.sort_pairwise (PySem.W.sortLe_total (listOrd itemOrd) false fun w : Str => PySem.W.keyToks (PyData.str w)) ks
  refine h.imp fun {a b} hab => ?_
  have e : byStr a b = decide (a.cps.toList ≤ b.cps.toList) := congrFun (congrFun (PySem.W.dataLe_str fun w : Str => w) a) b
  have hab' : byStr a b = true := hab
  rw [e] at hab'
  rw [ltCps_eq]
  exact decide_eq_false (List.not_lt.2 (of_decide_eq_true hab'))
section
variable {prog : Program} {w : World} {A : Around} {E : Value → Shared → Prop} {s : Shared}
theorem each_of_vals : ∀ {ks : List Str} {vs : List Value}, Vals (ks.map V.str) vs → PySem.W.EachIs (fun v (x : Str) => RelV (.str x) v) vs ks
  | [], [], _ => .nil
  | k :: ks, v :: vs, .cons r rr => .cons r (each_of_vals rr)
theorem vals_of_each : ∀ {vs : List Value} {ks : List Str}, PySem.W.EachIs (fun v (x : Str) => RelV (.str x) v) vs ks → Vals (ks.map V.str) vs
  | _, _, .nil => .nil
  | _, _, .cons r rr => .cons r (vals_of_each rr)
theorem ls_key {a : Addr} {n : Nat} {vs : List Value} {ks : List Str} {Q : Value → Shared → Prop} (ho : s.heap.get? a = some (seqObj "list" vs.toArray n)) (r : Vals (ks.map V.str) vs) (hL : ks.length ≤ sizeLine) (hu : A.units + 1 < cLine)
    (h : ∀ out c h' tk ys, PySem.W.KeepsBut a s.heap h' → h'.get? a = some (seqObj "list" (List.toArray out) c) → ys.Perm ks → sortedS ys = true → Vals (ys.map V.str) out → Q .none { s with heap := h', toks := tk }) :
    wpAny (model prog w) A (call (.builtin "list.sort") [.ref a] [(Str.ofString "key", .type "str")]) Q E s := by
  refine PySem.W.list_sort_key_data (f := .type "str") (b := false) (fun x : Str => PyData.str x) ho (each_of_vals r) (fun d hd d' hd' => ?_) (.inr fun d hd => ?_) hL (fun x _ => ?_) (ksk_l1 _ _) rfl (fun v x hv hx h tk kp => ?_) fun out c h' tk kp hat hl e => ?_
  · obtain ⟨x, _, rfl⟩ := List.mem_map.1 hd
    obtain ⟨y, _, rfl⟩ := List.mem_map.1 hd'
    rfl
  · obtain ⟨x, _, rfl⟩ := List.mem_map.1 hd
    exact ⟨(fun z => nomatch z), (fun _ z => nomatch z)⟩
  · have e : (PyData.str x).depth = 0 := by rw [PyData.depth]
    show A.units + 1 + (PyData.str x).depth < cLine
    rw [e]; exact hu
  · obtain ⟨t, rfl⟩ := hv
    exact PySem.P.str_of_str ⟨h, tk, rfl, fun _ _ q => q, .str x t⟩
  · exact h out c h' tk _ kp hat (List.mergeSort_perm ks byStr) (byStr_pairs ks) (vals_of_each e)
/-- sorted of what is gathered as vs -/
theorem so_key {it : Value} {ks : List Str} {Q : Value → Shared → Prop} (hL : ks.length ≤ sizeLine) (hu : A.units + 3 < cLine)
    (hc : ∀ (P : List Value → Shared → Prop), (∀ (vs : List Value) (h' : Heap) (tk : Nat), (∀ b o, s.heap.get? b = some o → h'.get? b = some o) → Vals (ks.map V.str) vs → P vs { s with heap := h', toks := tk }) → wpAny (model prog w) A.in1 (collect it) P E s)
    (h : ∀ (h1 h2 : Heap) (tk : Nat) (ys : List Str) (out : List Value) (c : Nat), (∀ b o, s.heap.get? b = some o → h1.get? b = some o) → (∀ b o, h1.get? b = some o → h2.get? b = some o) → h2.get? h1.objs.size = some (seqObj "list" (List.toArray out) c) → ys.Perm ks → sortedS ys = true → Vals (ys.map V.str) out → Q (.ref h1.objs.size) { s with heap := h2, toks := tk }) :
    wpAny (model prog w) A (call (.builtin "sorted") [it] [(Str.ofString "key", .type "str")]) Q E s := by
  refine call_function_entry_kw kind_sorted plain_sorted entry_sorted (ksk_s1 _ _) ?_
  unfold Builtin.«sorted»
  refine wpAny_bind (m := checkCount "sorted" 1 1 _) (wpAny_pure ?_)
  refine wpAny_bind (hc _ fun vs h1 tk1 k1 r => ?_)
  have hl : vs.length = ks.length := by rw [← r.length, List.length_map]
  refine wpAny_bind (wpAny_newList ?_ (by rw [hl]; exact hL))
  have hoL : (h1.push (seqObj "list" vs.toArray 0)).get? h1.objs.size = some (seqObj "list" vs.toArray 0) := Heap.get?_push_size _ rfl
  show wpAny _ _ _ _ _ { s with heap := h1.push (seqObj "list" vs.toArray 0), toks := tk1 }
  refine wpAny_bind (wpAny_holding (ls_key (s := { s with heap := h1.push (seqObj "list" vs.toArray 0), toks := tk1 }) hoL r hL (show A.units + 1 + 1 < cLine by omega) fun out c h2 tk2 ys kp hat hp hs hv => ?_))
  have hn1 : h1.get? h1.objs.size = none := Heap.get?_none_of_le (Nat.le_refl _)
  exact wpAny_pure ⟨_, rfl, h h1 h2 tk2 ys out c k1 (fun b o q => kp b o (fun z => by rw [z, hn1] at q; cases q) (Heap.get?_push_of_some _ q)) hat hp hs hv⟩
end
section
variable {X : Cx}
/-- sorted(x, key=str): of a dict's keys, a tuple, a list of texts -/
def gSortK (K : PySem.W.Frag) : List V → List V → Hp → VK → Prop := fun vs zs H Q => ∃ (a : Addr) (ks : List Str), vs = [.ref a] ∧ zs = [.ty "str"] ∧ ks.length ≤ 1000 ∧
  ((∃ kvs, Rd H a (.dK kvs) ∧ kvs.map (·.1) = ks.map Sum.inr) ∨ SqT K H a (ks.map V.str) ∨ SqL K H a (ks.map V.str)) ∧
  ∀ ys p, ys.Perm ks → sortedS ys = true → H p = none → Q (.ref p) (upd H p (.lst (ys.map V.str)))
theorem call_gSortK {K : PySem.W.Frag} (hK : X.K = K) (hcalm : X.calm = true) (hu : X.A.units + 64 < cLine) : CallRK X (.builtin "sorted") [Str.ofString "key"] (gSortK K) := by
  subst hK
  intro pins s σ H vs zs us ws Q I r rz h
  obtain ⟨a, ks, rfl, rfl, h1000, ha, q⟩ := h
  obtain rfl := Vals.ref1 r
  obtain ⟨w1, rfl, e1⟩ := vals1 rz
  obtain rfl : w1 = Value.type "str" := e1
  have hL : ks.length ≤ sizeLine := Nat.le_trans h1000 (by decide)
  refine so_key (s := s) (ks := ks) hL (show X.A.units + 3 < cLine by omega) (fun P k => ?_) fun h1 h2 tk ys out c k1 k2 hat hp hs hv => ?_
  · rcases ha with ⟨kvs, hd, hks⟩ | hT | hS
    · obtain ⟨z, lo, vs, rel, dd⟩ := dk_rd I.hok hd
      obtain ⟨ep, hat⟩ := dd.dictAt
      have hkeys : vs.map (·.1) = ks.map Sum.inr := rel.keys.symm.trans hks
      have hl : vs.length = ks.length := by
        have e := congrArg List.length hkeys
        rw [List.length_map, List.length_map] at e
        exact e
      have h16 : vs.length ≤ sizeLine := by rw [hl]; exact hL
      refine PySem.W.kdu_collect (A := X.A.in1) (PySem.W.kdl_dict (knd := mixKind X.prog X.w) (kvs := vs) (ep := ep) lo) (I.ok.hd hcalm) hat h16 fun h' tk acc hk hacc => ?_
      refine k _ _ _ hk ?_
      have e : ks.map V.str = vs.map fun p => kV p.1 := by
        have e1 : vs.map (fun p => kV p.1) = (vs.map (·.1)).map kV := by rw [List.map_map]; rfl
        rw [e1, hkeys, List.map_map]; rfl
      rw [e]
      exact keys_at (by rw [Array.length_toList, hacc.1]) fun j v ev => hacc.2 j v (by rw [← Array.getElem?_toList]; exact ev)
    · obtain ⟨its, rv, p, hz⟩ := I.tuple hT
      have p' : s.heap.IsTuple a its.toArray := p
      obtain ⟨o, ho, hc, n, hd⟩ := p'
      have hl := rv.length
      rw [List.length_map] at hl
      exact wpAny_collect_seq a (.inr rfl) ho hc hd (fun h' hk => k _ _ _ hk (by rw [show its.toArray.toList = its by simp]; exact rv)) (by rw [List.size_toArray]; omega)
    · obtain ⟨its, rv, p, hz⟩ := I.list hS
      obtain ⟨o, ho, hc, n, hd⟩ := p.isList
      have hl := rv.length
      rw [List.length_map] at hl
      exact wpAny_collect_seq a (.inl rfl) ho hc hd (fun h' hk => k _ _ _ hk (by rw [show its.toArray.toList = its by simp]; exact rv)) (by rw [List.size_toArray]; omega)
  · have I1 : Inv X pins σ H { s with heap := h1, toks := s.toks } := I.kept k1
    have hlen : (ys.map V.str).length ≤ sizeLine := by rw [List.length_map, hp.length_eq]; exact hL
    exact ⟨.ref h1.objs.size, upd H h1.objs.size (.lst (ys.map V.str)), I1.laid (t' := tk) k2 (Nat.le_refl _) (show ObjOk X.prog X.w _ _ _ (.lst (ys.map V.str)) from ⟨hlen, out, c, hv, hat⟩), rfl, q ys _ hp hs (I1.hok.fresh (Nat.le_refl _))⟩
end
/-! its step -/
section
variable {l : List Asn} {H : Hp} {p : Addr} {K : PySem.W.Frag} {Q : VK} {e : Nat} {ws : List Str}
theorem r_ckw {σ : L2.St} {r : List V → List V → Hp → VK → Prop} {t tk : TA} (q : t σ H fun vs H1 => tk σ H1 fun zs H2 => r vs zs H2 Q) : tCKw r t tk σ H Q := q
theorem sk_list (S : Sep l H) (hi : l[e]? = some (At p (.lst (ws.map V.str)))) (hz : ws.length ≤ 1000) (k : ∀ (ys : List Str) d H', ys.Perm ws → sortedS ys = true → Sep (At d (.lst (ys.map V.str)) :: l) H' → Q (.ref d) H') : gSortK K [.ref p] [.ty "str"] H Q :=
  ⟨p, ws, rfl, rfl, hz, .inr (.inr (SqL.of (S.at hi))), fun ys d hp hs hd => k ys d _ hp hs (S.new hd)⟩
theorem sk_tup (S : Sep l H) (hi : l[e]? = some (Tp p (ws.map V.str))) (hz : ws.length ≤ 1000) (k : ∀ (ys : List Str) d H', ys.Perm ws → sortedS ys = true → Sep (At d (.lst (ys.map V.str)) :: l) H' → Q (.ref d) H') : gSortK K [.ref p] [.ty "str"] H Q :=
  ⟨p, ws, rfl, rfl, hz, .inr (.inl (SqT.of (S.tp hi))), fun ys d hp hs hd => k ys d _ hp hs (S.new hd)⟩
theorem sk_dict {kvs : List (Key × V)} (S : Sep l H) (hi : l[e]? = some (At p (.dK kvs))) (hk : kvs.map (·.1) = ws.map Sum.inr) (hz : ws.length ≤ 1000) (k : ∀ (ys : List Str) d H', ys.Perm ws → sortedS ys = true → Sep (At d (.lst (ys.map V.str)) :: l) H' → Q (.ref d) H') : gSortK K [.ref p] [.ty "str"] H Q :=
  ⟨p, ws, rfl, rfl, hz, .inl ⟨kvs, .inl (S.at hi), hk⟩, fun ys d hp hs hd => k ys d _ hp hs (S.new hd)⟩
end
end
local macro_rules | `(tactic| walk_at "v1") => `(tactic| (with_reducible refine r_ckw ?_))

/-! a def whose only further parameter gathers keywords, called without any; an instance made without arguments -/
section
open PyProof.Rows
section
variable {CX : CXT} {P : Program} {w : World} {K : PySem.W.Frag} {mg : Str → Option Value} {base : Heap} {k : Nat} {f : Addr} {name qual : Str} {params : Arguments} {body : List Stmt} {scope : Scope} {dV kV doc pm cdv ct oc : Value} {an od : Option Addr}
  {osl : Array (Option Value)} {N ps : List Str} {sp : Sp}
theorem fn_kw0 {pd : Str} (lk : K.lookup f = some ⟨oc, od, .func (PySem.W.fnOf name qual params body scope dV kV doc pm an cdv ct), osl⟩) (hcd : PySem.W.codeIn K cdv qual = true) (S : FnScope N (ps ++ [pd]) scope) (hCX : StX.CXUp CX)
    (bind : ∀ us : List Value, us.length = ps.length → bindArgs (PySem.W.fnOf name qual params body scope dV kV doc pm an cdv ct) ⟨us, []⟩ = ((alloc ({ cls := .type "dict", data := .dict #[] } : Obj) : Sem Addr) >>= fun d => pure (ps.zip us ++ [(pd, Value.ref d)])))
    (walk : ∀ (A : Around) (outer : List Env) (s : Shared) (H : Hp) (vs : List V) (Q : VK) (E : XK), Room k (A.deeper (envOfC qual scope s.heap.objs.size f cdv)) → sp vs H Q E →
      ∃ t, PSs (cxOf CX P w K mg base N qual scope f cdv A outer s H E) body t ∧ t { nx := fun _ H' => Q .non H', rt := Q } (start N vs) H) :
    FnR P w K mg base CX (k + 1) f (fun vs H Q E => vs.length = ps.length ∧ ∀ d, H d = Option.none → sp (vs ++ [V.ref d]) (upd H d (.dK [])) Q E) := by
  rintro A outer s H us vs Q E hr e0 r ⟨hl, hq⟩
  have hn : H s.heap.objs.size = Option.none := e0.hok.fresh (Nat.le_refl _)
  have hlu : us.length = ps.length := by rw [← r.length]; exact hl
  refine StX.run_bnd lk hcd S hr e0 (G := fun xs H2 => ∃ d, H d = Option.none ∧ xs = vs ++ [V.ref d] ∧ H2 = upd H d (.dK [])) (fun A' Ex Q' h => ?_) (fun s2 H2 xs g hr' => ?_)
  · rw [bind us hlu]
    refine wpAny_bind (wpAny_alloc (wpAny_pure ?_))
    have un := StX.un_laid (fs := frs outer) (s := s) (o := ({ cls := .type "dict", data := .dict #[] } : Obj)) (u := .dK []) hn
    have e1 := StX.env0_laid (u := .dK []) (o := ({ cls := .type "dict", data := .dict #[] } : Obj)) e0 (dk_empty _ (StX.env0_big e0))
    have z := h _ _ (vs ++ [V.ref s.heap.objs.size]) (us ++ [Value.ref s.heap.objs.size]) e1 un rfl (fun e s' => hCX outer s H _ _ E e s' un (fun b o q => Heap.get?_push_of_some _ q) rfl) (r.append (.cons rfl .nil))
      (by rw [List.length_append, List.length_append, hl] <;> rfl) ⟨_, hn, rfl, rfl⟩
    rw [List.zip_append hlu.symm] at z
    exact z
  · obtain ⟨d, hd, rfl, rfl⟩ := g
    exact walk A outer s2 _ _ Q E hr' (hq d hd)
end
theorem fun_kw0 {P : Program} {w : World} {K : PySem.W.Frag} {mg : Str → Option Value} {base : Heap} {x qual : Str} {st : Stmt} {f : Addr} {fd : FuncData} {N ps : List Str} {pd : Str} {k : Nat} {sp : Sp} (F : Fun K x qual st f fd) (S : FnScope N (ps ++ [pd]) (defScope st))
    (bind : ∀ (kV doc pm : Value) (an : Option Addr) (cdv ct : Value) (us : List Value), us.length = ps.length → bindArgs (PySem.W.fnOf x qual (defArgs st) (defBody st) (defScope st) .none kV doc pm an cdv ct) ⟨us, []⟩ = ((alloc ({ cls := .type "dict", data := .dict #[] } : Obj) : Sem Addr) >>= fun d => pure (ps.zip us ++ [(pd, Value.ref d)])))
    (walk : ∀ (cdv : Value) (A : Around) (outer : List Env) (s : Shared) (H : Hp) (vs : List V) (Q : VK) (E : XK), Room k (A.deeper (envOfC qual (defScope st) s.heap.objs.size f cdv)) → sp vs H Q E →
      ∃ t, PSs (cxOf CX0 P w K mg base N qual (defScope st) f cdv A outer s H E).nox (defBody st) t ∧ t { nx := fun _ H' => Q .non H', rt := Q } (start N vs) H) :
    FnR P w K mg base CX0 (k + 1) f (fun vs H Q E => vs.length = ps.length ∧ ∀ d, H d = Option.none → sp (vs ++ [V.ref d]) (upd H d (.dK [])) Q E) := by
  obtain ⟨oc, od, kV, doc, pm, an, cdv, ct, osl, rfl, lk, hcd⟩ := F.ex
  refine fn_kw0 lk hcd S StX.cxUp_none (bind kV doc pm an cdv ct) fun A outer s H vs Q E hr hsp => ?_
  obtain ⟨t, h, q⟩ := walk cdv A outer s H vs Q E hr hsp
  exact ⟨t, h.nox, q⟩
/-- C() -/
theorem pe_makeR0 {X : Cx} {CX : CXT} {k : Nat} {f C : Addr} {sp : Sp} {E : XK} {x : Str} {p pos : Pos} (M : Mk X.K C f) (F : FnR X.prog X.w X.K X.mg X.base CX k f sp) (hr : Room (k + 1) X.A) (hg : Gl X x) (hm : X.mg x = some (.ref C)) (hx : Passes CX X E) (hdb : (x == ("__debug__" : Str)) = false := by decide) :
    PE X (.Call (.Name x p) [] [] pos) (StX.tMakeR C sp E tNil) := by
  refine ⟨fun pins s σ H Q I h => ?_⟩
  refine wpAny_Call_Name_kw (ld_glob I hg hm ?_ hdb)
  exact PySem.W.callWith_K0 (first := []) I.kIn M.kp (StX.run_makeR M F hr hx I .nil h)
/-- o.m() -/
theorem pe_methR0 {X : Cx} {CX : CXT} {k : Nat} {C f : Addr} {m : Str} {sp : Sp} {E : XK} {o : Expr} {ta : TE} {apos pos : Pos} {pl : Sem Bool} (he : PE X o ta) (c : Cls X.K C) (hm : Meth X.K C m f)
    (F : FnR X.prog X.w X.K X.mg X.base CX k f sp) (hr : Room k X.A) (hx : Passes CX X E)
    (ht : eval (.Call (.Attribute o m apos) [] [] pos) X.env = (do
      let ov ← eval o X.env
      standAt apos.atName
      let (f, first) ← holding [ov] (getMethod ov m pl)
      callWith pos f first (backTo pos (starEach [] X.env)) (backToKw pos (keywordEach [] X.env))) := by rfl) :
    PE X (.Call (.Attribute o m apos) [] [] pos) (tMethR C m sp E ta tNil) := by
  refine ⟨fun pins s σ H Q I h => ?_⟩
  refine PySem.W.methodCall_KW (pl := pl) (thn (he.run pins s σ H _ I h) fun u s1 ⟨x, H1, I1, rx, a, dx, fs, ex, ea, l, q⟩ => ?_) ht
  subst ex
  obtain rfl : u = Value.ref a := rx
  refine getmeth_ok I1 ea c hm l ?_
  exact PySem.W.callWith_K0 (first := [.ref a]) I1.kIn hm.kp (wpAny_call (run_fnR (us := [.ref a]) (vs := [.ref a]) F hr hx I1 (.cons rfl .nil) q))
/-- the receiver is an instance without such an attribute -/
def gM (C : Addr) (m : Str) (x : V) (H : Hp) (R : Prop) : Prop := ∃ a dx fs, x = .ref a ∧ H a = some (.ins C dx fs) ∧ fs.lookup m = none ∧ R
theorem r_meth {C : Addr} {m : Str} {sp : Sp} {E : XK} {ta : TE} {t : TA} {σ : L2.St} {H : Hp} {Q : VK} (q : ta σ H fun x H1 => gM C m x H1 (t σ H1 fun vs H2 => sp (x :: vs) H2 Q E)) : tMethR C m sp E ta t σ H Q := q
theorem lkN {f g : Str} {v : V} (h : (f == g) = false) : List.lookup f [(g, v)] = none := by
  show (match f == g with | true => some v | false => _) = _
  rw [h]; rfl

end
/-! counts -/
def kwSp (n : Nat) (sp : Sp) : Sp := fun vs H Q E => vs.length = n ∧ ∀ d, H d = Option.none → sp (vs ++ [V.ref d]) (upd H d (.dK [])) Q E
/-- counts: an instance whose dict has the words with a number that is not 0 -/
def Good (m : List (Str × Int)) : Prop := (keys m).Nodup ∧ (∀ x ∈ m, x.2 ≠ 0 ∧ Wd x.1) ∧ m.length ≤ 500
def Co (p C : Addr) (g : Str → Int) : Asn := Exs fun (x : Addr × List (Str × Int)) => Pk [pure' (Good x.2 ∧ num x.2 = g), Ob p C [("_numbers", .ref x.1)], At x.1 (.dK (mp x.2))]
abbrev cNs : List Str := ["_numbers"]
section
variable {l : List Asn} {H : Hp} {p C d : Addr} {g : Str → Int} {m : List (Str × Int)}
theorem co_open (S : Sep (Co p C g :: l) H) : ∃ d m, Good m ∧ num m = g ∧ Sep (Ob p C [("_numbers", .ref d)] :: At d (.dK (mp m)) :: l) H := by
  obtain ⟨⟨d, m⟩, S⟩ := S.ex
  obtain ⟨⟨h1, h2⟩, S⟩ := (S.open').pure
  exact ⟨d, m, h1, h2, S⟩
theorem co_close (h : Good m) (e : num m = g) (S : Sep (Ob p C [("_numbers", .ref d)] :: At d (.dK (mp m)) :: l) H) : Sep (Co p C g :: l) H :=
  Sep.ex' (x := (d, m)) (Sep.close' (l := [_, _, _]) (Sep.pure_in ⟨h, e⟩ S))
end
theorem m_co {l : List Asn} {H : Hp} {p C : Addr} {g : Str → Int} {f : Str} {R : Prop} {e : Nat} (S : Sep l H) (hi : l[e]? = some (Co p C g)) (hf : (f == ("_numbers" : Str)) = false) (q : R) : gM C f (.ref p) H R := by
  obtain ⟨d, m, _, _, S1⟩ := co_open (S.pick hi)
  obtain ⟨dx, h⟩ := ob_at S1 (e := 0) rfl
  exact ⟨p, dx, _, rfl, h, lkN hf, q⟩
local macro_rules | `(tactic| walk_at "v1") => `(tactic| (first
  | with_reducible refine r_meth ?_
  | ((with_reducible refine' m_co (by assumption) ?hi ?hf ?_); (case hi => walk_at "has"); (case hf => decide +kernel))))
/-! dict comprehensions -/
def DcB (J : It) (g : TG) (tt : TT) (tk tv : TE) (vs : List Nat) : L2.St → Hp → VK → Prop := fun σ H1 Q => ∀ D, H1 D = none → ∃ W : Nat → Nat → Hp → Prop, (∃ m, W 0 m (upd H1 D (.dK []))) ∧ ∀ i m H, W i m H →
  (J.stop i H ∧ Q (.ref D) H) ∨ (J.go i H ∧ ∃ Nx : Hp → Prop, (∀ H', Nx H' → ∃ m', m' < m ∧ W (i + 1) m' H') ∧ ∀ x H', J.yld i H x H' → g x (wipe σ vs) H' fun σ2 H2 => wipe σ2 vs = wipe σ vs ∧ tt σ2 H2 fun b H3 =>
    if b = true then tk σ2 H3 fun y H4 => tv σ2 H4 fun z H5 => ∃ kvs k, y = kV k ∧ H5 D = some (.dK kvs) ∧ kvs.length < sizeLine ∧ Nx (upd H5 D (.dK (putK kvs k z))) else Nx H3)
/-- the item goes to the new dict -/
def gDPut (D : Addr) (y z : V) (H : Hp) (N : Hp → Prop) : Prop := ∃ kvs k, y = kV k ∧ H D = some (.dK kvs) ∧ kvs.length < sizeLine ∧ N (upd H D (.dK (putK kvs k z)))
def DcT (g : TG) (tt : TT) (tk tv : TE) (vs : List Nat) (σ : L2.St) (x : V) (D : Addr) (N : Hp → Prop) (H : Hp) : Prop := g x (wipe σ vs) H fun σ2 H2 => wipe σ2 vs = wipe σ vs ∧ tt σ2 H2 fun b H3 =>
  if b = true then tk σ2 H3 fun y H4 => tv σ2 H4 fun z H5 => gDPut D y z H5 N else N H3
section
variable {σ : L2.St} {H : Hp} {K : PySem.W.Frag} {g : TG} {te ta tk tv : TE} {tt : TT} {vs : List Nat} {Q : VK} {l : List Asn} {p : Addr} {xs : List V}
theorem dc_turn {x : V} {N : Hp → Prop} {D : Addr} (q : g x (wipe σ vs) H fun σ2 H2 => wipe σ2 vs = wipe σ vs ∧ tt σ2 H2 fun b H3 => if b = true then tk σ2 H3 fun y H4 => tv σ2 H4 fun z H5 => gDPut D y z H5 N else N H3) : DcT g tt tk tv vs σ x D N H := q
theorem r_dcL (q : te σ H fun x H1 => ∃ a, x = .ref a ∧ (∃ xs, SqL K H1 a xs) ∧ DcB (Itl K a) g tt tk tv vs σ H1 Q) : tDc (iList K te) g tt tk tv vs σ H Q := q
/-- {k: v for x in xs if ..}, xs at an address of ours; D: the new dict's address -/
theorem dcL {e : Nat} (S : Sep l H) (hi : l[e]? = some (At p (.lst xs))) (Pv : Addr → Nat → Hp → Prop) (h0 : ∀ D H', Sep (At D (.dK []) :: l) H' → Pv D 0 H') (hl : ∀ D i H, Pv D i H → H p = some (.lst xs))
    (hs : ∀ D i x H, xs[i]? = some x → Pv D i H → DcT g tt tk tv vs σ x D (Pv D (i + 1)) H) (hd : ∀ D H, Pv D xs.length H → Q (.ref D) H) : ∃ a, V.ref p = .ref a ∧ (∃ xs, SqL K H a xs) ∧ DcB (Itl K a) g tt tk tv vs σ H Q := by
  refine ⟨p, rfl, ⟨xs, SqL.of (S.at hi)⟩, fun D hD => ⟨fun i m H => m = xs.length - i ∧ i ≤ xs.length ∧ Pv D i H, ⟨xs.length, by simp, Nat.zero_le _, h0 D _ (S.new hD)⟩, ?_⟩⟩
  rintro i m H ⟨rfl, hi, q⟩
  have hq := SqL.of (K := K) (hl D i H q)
  by_cases hlt : i < xs.length
  · refine .inr ⟨⟨xs, xs[i], hq, by simp [hlt]⟩, Pv D (i + 1), fun H' p' => ⟨xs.length - (i + 1), by omega, rfl, hlt, p'⟩, fun x H' y => ?_⟩
    obtain ⟨rfl, f⟩ := y
    exact hs D i x _ (f xs hq) q
  · have e : i = xs.length := by omega
    subst e
    exact .inl ⟨⟨xs, hq, Nat.le_refl _⟩, hd D H q⟩
theorem dp_put {e : Nat} {D : Addr} {m : List (Str × Int)} {w : Str} {n : Int} {N : Hp → Prop} (S : Sep l H) (hi : l[e]? = some (At D (.dK (mp m)))) (hn : (keys m).Nodup) (hz : m.length < 100000) (k : ∀ H', Sep (l.set e (At D (.dK (mp (mput m w n))))) H' → N H') : gDPut D (.str w) (.int n) H N :=
  ⟨mp m, Sum.inr w, rfl, S.at hi, by rw [List.length_map]; exact Nat.lt_of_lt_of_le hz (by decide), by rw [put_mp m w n hn]; exact k _ (S.upd hi fun _ z => nomatch z)⟩
end
theorem var_at {i : Nat} {σ : L2.St} {v : V} (h : σ[i]? = some (some v)) : ∀ H', tVar i σ H' = fun Q => Q v H' :=
  fun _ => funext fun _ => propext ⟨fun ⟨u, e, q⟩ => by rw [h] at e; cases e; exact q, fun q => ⟨v, h, q⟩⟩
/-- {.. for .. in d.items() ..}, d locked meanwhile and without an item -/
theorem dcI0 {σ : L2.St} {H : Hp} {g : TG} {te tk tv : TE} {tt : TT} {vs : List Nat} {Q : VK} {l : List Asn} {p : Addr} {e : Nat} (S : Sep l H) (hi : l[e]? = some (At p (.dK []))) (hv : ∀ H', te σ H' = fun Q => Q (.ref p) H')
    (k : ∀ D H', Sep (At D (.dK []) :: l) H' → Q (.ref D) H') : tLockE (tDc (iItems te) g tt tk tv vs) σ H Q := by
  refine ⟨p, .dK [], S.at hi, trivial, fun od => ?_⟩
  have S' := S.upd hi (o' := .frz od (.dK [])) (fun _ z => nomatch z)
  show te σ _ _
  rw [hv]
  refine ⟨p, od, [], rfl, upd_same, fun D hD => ⟨fun i m H' => i = 0 ∧ Sep (At D (.dK []) :: l.set e (At p (.frz od (.dK [])))) H', ⟨0, rfl, S'.new hD⟩, ?_⟩⟩
  rintro i m H' ⟨rfl, S2⟩
  have he : (At D (.dK []) :: l.set e (At p (.frz od (.dK []))))[e + 1]? = some (At p (.frz od (.dK []))) := by
    show (l.set e _)[e]? = _
    exact List.getElem?_set_self (get_lt hi)
  have hf := S2.at he
  refine .inl ⟨⟨hf, Nat.le_refl _⟩, hf, ?_⟩
  have S3 := S2.upd he (o' := .dK []) (fun _ z => nomatch z)
  have e3 : (At D (.dK []) :: l.set e (At p (.frz od (.dK [])))).set (e + 1) (At p (.dK [])) = At D (.dK []) :: l := by
    show At D (.dK []) :: (l.set e _).set e _ = _
    rw [List.set_set, set_same hi]
  rw [e3] at S3
  exact k D _ S3
theorem num_at : ∀ {m : List (Str × Int)} {x : Str × Int}, (keys m).Nodup → x ∈ m → num m x.1 = x.2
  | [], _, _, h => nomatch h
  | y :: m, x, hn, h => by
    have hn' := List.nodup_cons.1 hn
    show (if y.1 = x.1 then y.2 else num m x.1) = x.2
    rcases List.mem_cons.1 h with rfl | h
    · rw [if_pos rfl]
    · rw [if_neg (fun z => hn'.1 (show y.1 ∈ keys m by rw [z]; exact List.mem_map_of_mem h))]
      exact num_at hn'.2 h
theorem filt_put {qs : List (Str × Int)} {w : Str} {n : Int} (h : w ∉ keys qs) : mput qs w n = qs ++ [(w, n)] := by
  induction qs with
  | nil => rfl
  | cons x qs ih =>
    have hx : ¬ x.1 = w := fun z => h (by rw [← z]; exact List.mem_cons_self)
    unfold mput
    rw [if_neg hx, ih fun z => h (List.mem_cons_of_mem _ z)]
    rfl
theorem not_take {α : Type} [DecidableEq α] {l : List α} {i : Nat} {x : α} (hn : l.Nodup) (h : l[i]? = some x) : x ∉ l.take i := by
  intro z
  obtain ⟨j, hj⟩ := List.mem_iff_getElem?.1 z
  have hji := get_lt hj
  rw [List.length_take] at hji
  rw [List.getElem?_take] at hj
  split at hj
  · have := (List.getElem?_inj (by have := get_lt h; omega) hn).1 (hj.trans h.symm)
    omega
  · cases hj
abbrev nz (ps : List (Str × Int)) : List (Str × Int) := ps.filter fun x => decide (x.2 ≠ 0)
theorem nz_nodup {ps : List (Str × Int)} (hn : (keys ps).Nodup) : (keys (nz ps)).Nodup := List.Nodup.sublist (List.Sublist.map _ List.filter_sublist) hn
theorem nz_turn {ps : List (Str × Int)} {i : Nat} {y : Str × Int} (hn : (keys ps).Nodup) (h : ps[i]? = some y) : (y.2 ≠ 0 → nz (ps.take (i + 1)) = mput (nz (ps.take i)) y.1 y.2) ∧ (y.2 = 0 → nz (ps.take (i + 1)) = nz (ps.take i)) := by
  have hk : (keys ps)[i]? = some y.1 := by unfold keys; rw [List.getElem?_map, h]; rfl
  have hni : y.1 ∉ keys (nz (ps.take i)) := fun z => by
    obtain ⟨x, hx, e⟩ := List.mem_map.1 z
    have hx' := (List.mem_filter.1 hx).1
    refine not_take hn hk ?_
    unfold keys
    rw [← List.map_take]
    exact List.mem_map.2 ⟨x, hx', e⟩
  constructor
  · intro hy
    rw [filt_put hni]
    unfold nz
    rw [take_snoc h, List.filter_append, List.filter_cons, if_pos (decide_eq_true hy)]
    rfl
  · intro hy
    unfold nz
    rw [take_snoc h, List.filter_append, List.filter_cons, if_neg (by rw [decide_eq_false (fun z => z hy)]; exact Bool.false_ne_true), List.filter_nil, List.append_nil]
theorem nz_good {ps : List (Str × Int)} (hn : (keys ps).Nodup) (hw : ∀ x ∈ ps, Wd x.1) (hz : ps.length ≤ 500) : Good (nz ps) :=
  ⟨nz_nodup hn, fun x hx => ⟨of_decide_eq_true (List.mem_filter.1 hx).2, hw x (List.mem_filter.1 hx).1⟩, Nat.le_trans (List.length_filter_le _ _) hz⟩
theorem filt_num {ps : List (Str × Int)} (hn : (keys ps).Nodup) : num (ps.filter fun x => decide (x.2 ≠ 0)) = num ps := by
  induction ps with
  | nil => rfl
  | cons x ps ih =>
    have hn' := List.nodup_cons.1 hn
    have ih := ih hn'.2
    funext w
    by_cases hx : x.2 ≠ 0
    · rw [List.filter_cons, if_pos (decide_eq_true hx)]
      show (if x.1 = w then x.2 else num _ w) = if x.1 = w then x.2 else num ps w
      rw [ih]
    · rw [List.filter_cons, if_neg (by rw [decide_eq_false hx]; exact Bool.false_ne_true), ih]
      show num ps w = if x.1 = w then x.2 else num ps w
      by_cases hw : x.1 = w
      · rw [if_pos hw]
        have h0 : x.2 = 0 := Classical.byContradiction hx
        rw [h0]
        exact num_none fun z => hn'.1 (show x.1 ∈ keys ps by rw [hw]; exact z)
      · rw [if_neg hw]

/-! pairs: equality, a dict's items as a list; isinstance of lists -/
section
variable {K : PySem.W.Frag} {H H' : Hp} {Q : VK} {l : List Asn} {p d : Addr} {xs : List V} {m : List (Str × Int)}
theorem i_LT {e f : Nat} {q : Addr} (S : Sep l H) (hi : l[e]? = some (At p (.lst xs))) (hj : l[f]? = some (Tp q [.ty "list", .ty "tuple"])) (k : Q (.bl true) H) : gIsi K [.ref p, .ref q] H Q :=
  .inr ⟨.ref p, q, [.ty "list", .ty "tuple"], .type "list", [.type "list", .type "tuple"], true, rfl, S.tp hj, .cons (.ty _) (.cons (.ty _) .nil), .base (.lst (S.at hi)), (by unfold PySem.W.kitAny; rw [kit_ty k_ll]), k⟩
theorem Sep.grow {o : HO} (S : Sep l H) (hk : ∀ b o, H b = some o → H' b = some o) (hp : H p = none) (h' : H' p = some o) : Sep (At p o :: l) H' := by
  obtain ⟨g, S⟩ := S
  have S' := S.st (H' := H') (fun a z => by obtain ⟨o, e⟩ := S.al a z; rw [hk _ _ e, e]) (fun b xs e => hk _ _ e)
  refine ⟨_, .cons ⟨h', fun a => Iff.rfl⟩ S' fun a z q => ?_⟩
  cases z
  obtain ⟨o, e⟩ := S.al _ q
  rw [hp] at e; cases e
theorem paired_mp : ∀ {m : List (Str × Int)} {ts : List Addr}, Paired (fun (t : Addr) (q : Key × V) => H t = some (.tup [kV q.1, q.2])) ts (mp m) → IsDs H (ts.map V.ref) (pds m)
  | [], _, .nil => .nil
  | (w, n) :: m, _, .cons h r => .cons (pair_isD h) (paired_mp r)
theorem li_items {e : Nat} (S : Sep l H) (hi : l[e]? = some (At d (.dK (mp m)))) (k : ∀ p H', Sep (LD p (pds m) :: l) H' → Q (.ref p) H') : LiI.rItemsL (.ref d) H Q :=
  ⟨d, mp m, rfl, S.at hi, fun H' p ts hk hp _ _ hl hq => k p H' (ld_close (paired_mp hq) (S.grow hk hp hl))⟩
theorem r_listItems {σ : L2.St} {te : TE} (q : te σ H fun x H1 => LiI.rItemsL x H1 Q) : LiI.tListItems te σ H Q := q
end
local macro_rules | `(tactic| walk_at "v1") => `(tactic| (first
  | with_reducible refine r_listItems ?_
  | ((with_reducible refine' li_items (by assumption) ?hi ?_); (case hi => walk_at "has"); intro _ _ _)))
theorem eqv_pds : ∀ L M : List (Str × Int), PyData.eqvAll (pds L) (pds M) = decide (L = M)
  | [], [] => by simp [PyData.eqvAll]
  | [], _ :: _ => by simp [PyData.eqvAll]
  | _ :: _, [] => by simp [PyData.eqvAll]
  | (a, n) :: ws, (b, m) :: us => by
    show PyData.eqvAll (pd (a, n) :: pds ws) (pd (b, m) :: pds us) = _
    rw [PyData.eqvAll, eqv_pds ws us]
    show (PyData.eqv (.tuple [.str a, .int n]) (.tuple [.str b, .int m]) && _) = _
    rw [PyData.eqv, PyData.eqvAll, PyData.eqvAll, PyData.eqvAll, PyData.eqv, PyData.eqv]
    by_cases h : a = b
    · by_cases h2 : n = m
      · by_cases h3 : ws = us <;> simp [h, h2, h3, Prod.ext_iff]
      · simp [h, h2, Prod.ext_iff]
    · simp [h, Prod.ext_iff]
theorem lay_pds {L : List (Str × Int)} (h : ∀ x ∈ L, Wd x.1) : PyData.canLayAll0 (pds L) = true ∧ PyData.depthAll (pds L) ≤ 1 := by
  induction L with
  | nil => exact ⟨rfl, Nat.zero_le _⟩
  | cons x L ih =>
    obtain ⟨i1, i2⟩ := ih fun y hy => h y (List.mem_cons_of_mem _ hy)
    have hs := strOk_word (h x List.mem_cons_self)
    show PyData.canLayAll0 (.tuple [.str x.1, .int x.2] :: pds L) = true ∧ PyData.depthAll (.tuple [.str x.1, .int x.2] :: pds L) ≤ 1
    refine ⟨by simp [PyData.canLayAll0, PyData.canLay0, hs, i1], by simp [PyData.depthAll, PyData.depth, i2]⟩
theorem shaped_pds {L : List (Str × Int)} (h : ∀ x ∈ L, Wd x.1) : SeqAt.shaped (.list (pds L)) = true := by
  obtain ⟨h1, h2⟩ := lay_pds h
  unfold SeqAt.shaped
  rw [PyData.canLay0, h1, PyData.depth]
  simp; omega
section
variable {l : List Asn} {H : Hp} {p p2 : Addr} {K : PySem.W.Frag} {Q : VK} {e e2 : Nat} {L M : List (Str × Int)}
theorem eq_pds (S : Sep l H) (hi : l[e]? = some (LD p (pds L))) (hj : l[e2]? = some (LD p2 (pds M))) (h1 : ∀ x ∈ L, Wd x.1) (h2 : ∀ x ∈ M, Wd x.1) (q : Q (.bl (decide (L = M))) H) : gEq K (.ref p) (.ref p2) H Q :=
  .inr ⟨.list (pds L), .list (pds M), ld_dp S hi, ld_dp S hj, shaped_pds h1, shaped_pds h2, by rw [PyData.eqv, eqv_pds]; exact q⟩
theorem ne_pds (S : Sep l H) (hi : l[e]? = some (LD p (pds L))) (hj : l[e2]? = some (LD p2 (pds M))) (h1 : ∀ x ∈ L, Wd x.1) (h2 : ∀ x ∈ M, Wd x.1) (q : Q (.bl (!decide (L = M))) H) : gNe K (.ref p) (.ref p2) H Q :=
  .inr ⟨.list (pds L), .list (pds M), ld_dp S hi, ld_dp S hj, shaped_pds h1, shaped_pds h2, by rw [PyData.eqv, eqv_pds]; exact q⟩
/-- .. is a list -/
theorem i_LD {ds : List PyData} {T : String} {b : Bool} (S : Sep l H) (hi : l[e]? = some (LD p ds)) (h : kitB "list" T = some b) (q : Q (.bl b) H) : gIsi K [.ref p, .ty T] H Q := by
  obtain ⟨vs, _, S1⟩ := ld_open (S.pick hi)
  exact i_ty (.base (.lst (S1.at (i := 0) rfl))) h q
end
local macro_rules | `(tactic| walk_at "v1") => `(tactic| ((with_reducible refine' i_LD (by assumption) ?hi ?h ?_); (case hi => walk_at "has"); (case h => (first | exact k_ll | exact k_lt | exact k_li | exact k_ls))))

/-! own operators of instances with a dict -/
section
variable {X : Cx} {CX : CXT} {n : Nat} {f C : Addr} {sp : Sp} {E : XK} {m : Str}
theorem ins_inst {pins : List (Addr × Obj)} {s : Shared} {σ : L2.St} {H : Hp} {a C dx : Addr} {fs : List (Str × V)} (I : L2.Inv X pins σ H s) (e : H a = some (.ins C dx fs)) : ∃ ox od, PySem.W.InstAt s.heap a ox C od := by
  obtain ⟨mA, O, _⟩ := ins_get I.hok e
  obtain ⟨od, J, _⟩ := O.look
  exact ⟨_, _, J⟩
/-- o[i] = v -/
def rSetOwn (C : Addr) (sp : Sp) (E : XK) : TSet := fun o i v H Q => ∃ a dx fs, o = V.ref a ∧ H a = some (.ins C dx fs) ∧ sp [V.ref a, i, v] H (fun _ H' => Q H') E
theorem set_own (hn : PySem.W.noSeq X.K C = true) (hm : Meth X.K C (Str.ofString "__setitem__") f) (F : FnR X.prog X.w X.K X.mg X.base CX n f sp) (hr : Room n X.A) (hx : Passes CX X E) : PSet X (rSetOwn C sp E) := by
  intro pins s σ H o i v ov iv u Q I ro ri rv h
  obtain ⟨a, dx, fs, rfl, ha, q⟩ := h
  cases (show ov = Value.ref a from ro)
  obtain ⟨ox, od, J⟩ := ins_inst I ha
  obtain ⟨m, hF⟩ := I.fr
  refine PySem.W.ksp_setItem hF I.ok.mod.kin J hn hm.at_ hm.fn ?_
  refine wpAny_mono (wpAny_call (run_fnR (us := [.ref a, iv, u]) (vs := [.ref a, i, v]) F hr hx I (.cons rfl (.cons ri (.cons rv .nil))) q)) (fun w s' z => ?_) fun _ _ x => x
  obtain ⟨z', H', I', rz, qz⟩ := z
  exact ⟨H', I', qz⟩
/-- len(o) -/
def rLenOwn (C : Addr) (sp : Sp) (E : XK) : List V → Hp → VK → Prop := fun xs H Q => ∃ a dx fs, xs = [V.ref a] ∧ H a = some (.ins C dx fs) ∧ sp [V.ref a] H (fun z H' => ∃ i : Int, z = .int i ∧ 0 ≤ i ∧ i < 2 ^ 63 ∧ Q z H') E
theorem call_ownLen (hm : Meth X.K C (Str.ofString "__len__") f) (F : FnR X.prog X.w X.K X.mg X.base CX n f sp) (hr : Room (n + 1) X.A) (hx : Passes CX X E) : CallR X (.builtin "len") (rLenOwn C sp E) := by
  intro pins s σ H xs us Q I r h
  obtain ⟨a, dx, fs, rfl, ha, q⟩ := h
  obtain ⟨u, rfl, ru⟩ := r.one
  cases (show u = Value.ref a from ru)
  obtain ⟨ox, od, J⟩ := ins_inst I ha
  obtain ⟨m, hF⟩ := I.fr
  refine PySem.W.len_K hF I.ok.mod.kin J hm.at_ hm.fn ?_
  refine wpAny_mono (wpAny_call (SlX.run_at (us := [.ref a]) (ws := [.ref a]) F (show Room n X.A.in1 from Room.in1 hr) I.env0.in1 hx I (.cons rfl .nil) q)) (fun w s' z => ?_) fun _ _ x => x
  obtain ⟨z', H', I', rz, i, ei, h0, h1, qz⟩ := z
  subst ei
  obtain ⟨t, e⟩ := (show ∃ t, w = Value.int i t from rz)
  cases e
  exact ⟨⟨h0, h1⟩, .int i, H', I'.tok _, ⟨_, rfl⟩, qz⟩
/-- x op y, both instances of C -/
def rBinOwn (C : Addr) (sp : Sp) (E : XK) : R2 := fun x y H Q => ∃ a dx fs b dy gs, x = V.ref a ∧ y = V.ref b ∧ H a = some (.ins C dx fs) ∧ H b = some (.ins C dy gs) ∧ sp [x, y] H Q E
theorem op_ownBin {op : Operator} (hm : Meth X.K C (PySem.dunder op.info.2) f) (hs : PySem.W.selfFirst X.K C = true) (F : FnR X.prog X.w X.K X.mg X.base CX n f sp) (hr : Room n X.A) (hx : Passes CX X E) : OpR X (binaryOp op) (rBinOwn C sp E) := by
  intro pins s σ H x y v u Q I rx ry h
  obtain ⟨a, dx, fs, b, dy, gs, rfl, rfl, ha, hb, q⟩ := h
  cases (show v = Value.ref a from rx)
  cases (show u = Value.ref b from ry)
  obtain ⟨ox, od, J⟩ := ins_inst I ha
  obtain ⟨ox', od', J'⟩ := ins_inst I hb
  obtain ⟨m, hF⟩ := I.fr
  refine PySem.W.binop_K hF I.ok.mod.kin J J'.type hs hm.at_ hm.fn ?_
  refine wpAny_mono (wpAny_call (run_fnR (us := [.ref a, .ref b]) (vs := [.ref a, .ref b]) F hr hx I (.cons rfl (.cons rfl .nil)) q)) (fun w s' z => ?_) fun _ _ x => x
  obtain ⟨z', H', I', rz, qz⟩ := z
  exact SlX.cmpback rz ⟨z', H', I', rz, qz⟩
theorem op_ownCmp {op : CmpOp} (hop : ∀ a b, compareOp op a b = richCompare op a b) (hm : Meth X.K C (cmpInfo op).2.1 f) (hs : PySem.W.notFirst X.K C (.ref C) = true) (F : FnR X.prog X.w X.K X.mg X.base CX n f sp) (hr : Room n X.A) (hx : Passes CX X E) : OpR X (compareOp op) (rBinOwn C sp E) := by
  intro pins s σ H x y v u Q I rx ry h
  obtain ⟨a, dx, fs, b, dy, gs, rfl, rfl, ha, hb, q⟩ := h
  cases (show v = Value.ref a from rx)
  cases (show u = Value.ref b from ry)
  obtain ⟨ox, od, J⟩ := ins_inst I ha
  obtain ⟨ox', od', J'⟩ := ins_inst I hb
  obtain ⟨m, hF⟩ := I.fr
  rw [hop]
  refine PySem.W.cmp_K (op := op) (tb := .ref C) hr.units0 hF I.ok.mod.kin J J'.type hs hm.at_ hm.fn ?_
  refine wpAny_mono (wpAny_call (run_fnR (us := [.ref a, .ref b]) (vs := [.ref a, .ref b]) F hr hx I (.cons rfl (.cons rfl .nil)) q)) (fun w s' z => ?_) fun _ _ x => x
  obtain ⟨z', H', I', rz, qz⟩ := z
  exact SlX.cmpback rz ⟨z', H', I', rz, qz⟩
end
/-! sum(d.values()) -/
/-- sum(o.values()), a dict with int values -/
def tSumVals (td : TE) : TE := fun σ H Q => td σ H fun x H1 => ∃ (a : Addr) (kvs : List (Key × V)) (is : List Int), x = V.ref a ∧ H1 a = some (.dK kvs) ∧ kvs.map (·.2) = is.map V.int ∧ Q (.int is.sum) H1
section
open PyProof PyProof.Rows PyProof.V PySem.Spec PySem.Calls
theorem preSum_take (is : List Int) : ∀ j, preSum (fun i => is.getD i 0) j = (is.take j).sum
  | 0 => by simp [preSum]
  | j + 1 => by
    rw [preSum, preSum_take is j, List.getD_eq_getElem?_getD, List.take_add_one]
    cases is[j]? <;> simp
variable {X : Cx} {o : Expr} {p pos apos mpos : Pos} {td : TE}
theorem pe_sumVals (hc : X.calm = true) (hg : Gl X "sum") (hm : X.mg "sum" = none) (hd : PE X o td) (hbase : attributeBase o "values" X.env (eval o X.env) = eval o X.env := by rfl) (hline : (apos.endLine == mpos.line) = true := by rfl)
    (hse : starEach [Expr.Call (.Attribute o "values" apos) [] [] mpos] X.env = [(false, eval (Expr.Call (.Attribute o "values" apos) [] [] mpos) X.env)] := by rfl) :
    PE X (.Call (.Name "sum" p) [.Call (.Attribute o "values" apos) [] [] mpos] [] pos) (tSumVals td) := by
  refine ⟨fun pins s σ H Q I h => ?_⟩
  refine wpAny_Call_Name_kw (ld_blt I hg hm (u := .builtin "sum") (by first | rfl | decide +kernel) ?_ (by first | decide +kernel | decide) (by first | decide +kernel | decide))
  rw [hse]
  refine PySem.callWith_builtin1 (wpAny_Call_method0_late hbase hline (thn (hd.run pins s σ H _ I h) fun v s1 ⟨x, H1, I1, r1, a, kvs, is, ex, ha, hv, q⟩ => ?_))
  subst ex
  obtain rfl : v = Value.ref a := r1
  obtain ⟨_, hsys, vs, rel, dof⟩ := dk_of I1.hok ha
  obtain ⟨ep, dat⟩ := dof.dictAt
  have dat' := dat
  obtain ⟨ob, es, ho, ex, hdat, hko, hpr, hnd⟩ := dat'
  refine ⟨"dict", "dict.values", F.plainAttrs_dict, F.slot_dict_values, F.type_dict_values, ⟨ob, ho, ex.1⟩, fun b e => ?_, Calls.callWith_builtin rfl (PySem.evalArgs_none ?_)⟩
  · cases e
    exact ⟨ob, ho, ex.2.1⟩
  refine call_meetsIn F.slot_dict_values ⟨ob, ho, ex.1⟩ F.entry_dict_values (F.args_dict_values_1 _) (meets_dict_values (mixKind X.prog X.w) a hsys) ⟨⟨vs, dof⟩, ?_⟩
  have k1 : ∀ b u, s1.heap.get? b = some u → (s1.heap.push { cls := .type "dict_values", data := .fields #[.ref a] }).get? b = some u := fun b u e => Heap.get?_push_of_some _ e
  have dat1 : (s1.heap.push { cls := .type "dict_values", data := .fields #[.ref a] }).DictAt (mixKind X.prog X.w) a vs ep := dat.keep k1
  have hlv : vs.length = is.length := by
    have e1 := congrArg List.length hv
    rw [List.length_map, List.length_map] at e1
    rw [← e1]
    exact (KV.length rel).symm
  have hval : ∀ (i : Nat) (v : Value), (∃ k, vs[i]? = some (k, v)) → ∃ t, v = Value.int (is.getD i 0) t := fun i v ⟨k, hk⟩ => by
    obtain ⟨x, h1, h2⟩ := KV.at' rel hk
    have e1 : (kvs.map (·.2))[i]? = some x := by rw [List.getElem?_map, h1] <;> rfl
    rw [hv, List.getElem?_map] at e1
    obtain ⟨j, hj, e2⟩ := Option.map_eq_some_iff.mp e1
    subst e2
    obtain ⟨t, e3⟩ := h2
    refine ⟨t, ?_⟩
    rw [e3, List.getD_eq_getElem?_getD, hj] <;> rfl
  have hlt : a < s1.heap.objs.size := Heap.lt_size ho
  have hsz : (s1.heap.push { cls := .type "dict_values", data := .fields #[.ref a] }).objs.size = s1.heap.objs.size + 1 := Heap.size_push _ _
  refine call_sum_walkAnyS (wpAny_pyIter_values (v := s1.heap.objs.size) (d := a) ⟨_, Heap.get?_push_size _ rfl, rfl, rfl⟩ dat1 ?_)
  refine ⟨_, _, _, _, vs.length, _, _, fun i => is.getD i 0, rfl, (Walks.dictValues (knd := mixKind X.prog X.w) (A := X.A.in1) (I.ok.hd hc) (s1.heap.push { cls := .type "dict_values", data := .fields #[.ref a] }).objs.size a (by rw [hsz]; exact Nat.ne_of_lt (Nat.lt_succ_of_lt hlt)) vs ep).toS,
    ⟨⟨_, Heap.get?_push_size _ rfl, rfl, rfl⟩, dat1.keep fun b u e => Heap.get?_push_of_some _ e⟩, fun b hb => ?_, hval, fun s' t' hmv => ?_⟩
  · show b < ((s1.heap.push _).push _).objs.size
    rw [Heap.size_push, Heap.size_push]
    rw [hsz] at hb
    rcases List.mem_cons.mp hb with e | hb
    · rw [e]
      exact Nat.lt_succ_self _
    · have e : b = a := List.mem_singleton.mp hb
      rw [e]
      exact Nat.lt_succ_of_lt (Nat.lt_succ_of_lt hlt)
  · have hk : ∀ b u, s1.heap.get? b = some u → s'.heap.get? b = some u := fun b u e => hmv.heap b u (fun hmem => by
      have e1 : b = (s1.heap.push { cls := .type "dict_values", data := .fields #[.ref a] }).objs.size := List.mem_singleton.mp hmem
      have e2 := Heap.lt_size e
      rw [hsz] at e1
      rw [e1] at e2
      exact absurd e2 (Nat.not_lt.mpr (Nat.le_succ _))) (Heap.get?_push_of_some _ (k1 b u e))
    rw [Moved.eq_with hmv]
    refine ⟨.int _, H1, I1.kept (t' := s'.toks) hk, ⟨t', rfl⟩, ?_⟩
    rw [preSum_take, hlv, List.take_length]
    exact q
end
/-! steps -/
def gSumV (x : V) (H : Hp) (Q : VK) : Prop := ∃ (a : Addr) (kvs : List (Key × V)) (is : List Int), x = V.ref a ∧ H a = some (.dK kvs) ∧ kvs.map (·.2) = is.map V.int ∧ Q (.int is.sum) H
def gIns (C : Addr) (x : V) (H : Hp) (R : Prop) : Prop := ∃ a dx fs, x = V.ref a ∧ H a = some (.ins C dx fs) ∧ R
section
variable {l : List Asn} {H : Hp} {σ : L2.St} {td ta : TE} {Q : VK} {d p C : Addr} {m : List (Str × Int)} {g : Str → Int} {sp : Sp} {E : XK} {dvs : List V} {e : Nat}
theorem r_sumVals (q : td σ H fun x H1 => gSumV x H1 Q) : tSumVals td σ H Q := q
theorem sum_mp (S : Sep l H) (hi : l[e]? = some (At d (.dK (mp m)))) (q : Q (.int (m.map (·.2)).sum) H) : gSumV (.ref d) H Q := ⟨d, mp m, m.map (·.2), rfl, S.at hi, by rw [List.map_map, List.map_map]; rfl, q⟩
theorem r_prop (q : ta σ H fun x H1 => gIns C x H1 (sp (x :: dvs) H1 Q E)) : tProp C sp dvs E ta σ H Q := by
  have e : (fun (x : V) (H1 : Hp) => ∃ a dx fs, x = V.ref a ∧ H1 a = some (.ins C dx fs) ∧ sp (V.ref a :: dvs) H1 Q E) = fun x H1 => gIns C x H1 (sp (x :: dvs) H1 Q E) :=
    funext fun x => funext fun H1 => propext ⟨fun ⟨a, dx, fs, e, h, q⟩ => ⟨a, dx, fs, e, h, e ▸ q⟩, fun ⟨a, dx, fs, e, h, q⟩ => ⟨a, dx, fs, e, h, e ▸ q⟩⟩
  show ta σ H (fun (x : V) (H1 : Hp) => ∃ a dx fs, x = V.ref a ∧ H1 a = some (.ins C dx fs) ∧ sp (V.ref a :: dvs) H1 Q E)
  rw [e]; exact q
theorem ins_co (S : Sep l H) (hi : l[e]? = some (Co p C g)) : ∃ dx fs, H p = some (.ins C dx fs) := by
  obtain ⟨d, m, _, _, S1⟩ := co_open (S.pick hi)
  obtain ⟨dx, h⟩ := ob_at S1 (e := 0) rfl
  exact ⟨dx, _, h⟩
theorem gi_co {R : Prop} (S : Sep l H) (hi : l[e]? = some (Co p C g)) (q : R) : gIns C (.ref p) H R := by
  obtain ⟨dx, fs, h⟩ := ins_co S hi
  exact ⟨p, dx, fs, rfl, h, q⟩
theorem s_co {i v : V} {N : Hp → Prop} (S : Sep l H) (hi : l[e]? = some (Co p C g)) (q : sp [.ref p, i, v] H (fun _ H' => N H') E) : rSetOwn C sp E (.ref p) i v H N := by
  obtain ⟨dx, fs, h⟩ := ins_co S hi
  exact ⟨p, dx, fs, rfl, h, q⟩
end
local macro_rules | `(tactic| walk_at "v1") => `(tactic| (first
  | with_reducible refine r_sumVals ?_
  | with_reducible refine r_prop ?_
  | ((with_reducible refine' sum_mp (by assumption) ?hi ?_); (case hi => walk_at "has"))
  | ((with_reducible refine' gi_co (by assumption) ?hi ?_); (case hi => walk_at "has"))
  | ((with_reducible refine' s_co (by assumption) ?hi ?_); (case hi => walk_at "has"))))

/-! dicts of words and numbers compared, listed, joined; own operators walked -/
/-! ### d == e -/
def mpEq (m1 m2 : List (Str × Int)) : Bool := (m1.length == m2.length) && m1.all fun x => decide (x.1 ∈ keys m2) && (x.2 == num m2 x.1)
theorem hits_mp {A : Around} {s : Shared} {m2 : List (Str × Int)} {vb : List (Key × Value)} (rb : KV (mp m2) vb) : ∀ (m1 : List (Str × Int)) {va : List (Key × Value)}, KV (mp m1) va →
    PySem.W.KeqHits A s vb va (m1.all fun x => decide (x.1 ∈ keys m2) && (x.2 == num m2 x.1))
  | [], va, ra => by
    unfold KV at ra
    cases ra
    exact .nil
  | x :: m1, va, ra => by
    unfold KV at ra
    cases ra with
    | @cons p q ps qs h t =>
      obtain ⟨h1, h2⟩ := h
      obtain ⟨k, v⟩ := q
      have h1' : (Sum.inr x.1 : Key) = k := h1
      subst h1'
      have ih := hits_mp (A := A) (s := s) rb m1 t
      have rr : RelO (valV (mp m2) (Sum.inr x.1 : Key)) (valueAt vb (Sum.inr x.1)) := rb.val (Sum.inr x.1)
      rw [val_mp] at rr
      show PySem.W.KeqHits A s vb ((Sum.inr x.1, v) :: qs) ((decide (x.1 ∈ keys m2) && (x.2 == num m2 x.1)) && m1.all fun x => decide (x.1 ∈ keys m2) && (x.2 == num m2 x.1))
      by_cases hk : x.1 ∈ keys m2
      · rw [if_pos hk] at rr
        obtain ⟨y, hy, ry⟩ := rr.some_of
        obtain ⟨t1, e1⟩ := (show ∃ t, v = Value.int x.2 t from h2)
        obtain ⟨t2, e2⟩ := (show ∃ t, y = Value.int (num m2 x.1) t from ry)
        subst e1; subst e2
        rw [decide_eq_true hk, Bool.true_and]
        exact .hit hy (SeqAt.EqAt.int_int _ _ _ _) ih
      · rw [if_neg hk] at rr
        rw [decide_eq_false hk, Bool.false_and, Bool.false_and]
        refine .miss ?_
        cases hv : valueAt vb (Sum.inr x.1) with
        | none => rfl
        | some y => rw [hv] at rr; exact rr.elim
section
variable {X : Cx}
def rEqMp (neg : Bool) : R2 := fun x y H Q => ∃ a b m1 m2, x = .ref a ∧ y = .ref b ∧ H a = some (.dK (mp m1)) ∧ H b = some (.dK (mp m2)) ∧ Q (.bl (if neg then !(mpEq m1 m2) else mpEq m1 m2)) H
theorem op_eqMp (hu : X.A.units < cLine) : OpR X (compareOp .Eq) (rEqMp false) := by
  intro pins s σ H x y v u Q I rx ry h
  obtain ⟨a, b, m1, m2, rfl, rfl, ea, eb, q⟩ := h
  obtain rfl : v = Value.ref a := rx
  obtain rfl : u = Value.ref b := ry
  obtain ⟨_, ya, va, ra, da⟩ := (show ObjOk X.prog X.w H s.heap a (.dK (mp m1)) from I.hok a _ ea)
  obtain ⟨_, yb, vb, rb, db⟩ := (show ObjOk X.prog X.w H s.heap b (.dK (mp m2)) from I.hok b _ eb)
  have hl1 : va.length = m1.length := by rw [← ra.length, List.length_map]
  have hl2 : vb.length = m2.length := by rw [← rb.length, List.length_map]
  exact PySem.W.keq_eq (knd := mixKind X.prog X.w) ya yb da db hu (fun _ => hits_mp rb m1 ra) (fin_bl I q (by rw [hl1, hl2]; rfl))
theorem op_neMp (hu : X.A.units < cLine) : OpR X (compareOp .NotEq) (rEqMp true) := by
  intro pins s σ H x y v u Q I rx ry h
  obtain ⟨a, b, m1, m2, rfl, rfl, ea, eb, q⟩ := h
  obtain rfl : v = Value.ref a := rx
  obtain rfl : u = Value.ref b := ry
  obtain ⟨_, ya, va, ra, da⟩ := (show ObjOk X.prog X.w H s.heap a (.dK (mp m1)) from I.hok a _ ea)
  obtain ⟨_, yb, vb, rb, db⟩ := (show ObjOk X.prog X.w H s.heap b (.dK (mp m2)) from I.hok b _ eb)
  have hl1 : va.length = m1.length := by rw [← ra.length, List.length_map]
  have hl2 : vb.length = m2.length := by rw [← rb.length, List.length_map]
  exact PySem.W.keq_ne (knd := mixKind X.prog X.w) ya yb da db hu (fun _ => hits_mp rb m1 ra) (fin_bl I q (by rw [hl1, hl2]; rfl))
end
theorem good_val {m : List (Str × Int)} (h : Good m) {w : Str} (hw : w ∈ keys m) : num m w ≠ 0 := by
  have hx := key_num h.1 hw
  exact (h.2.1 _ hx).1
theorem good_mem {m : List (Str × Int)} (h : Good m) {w : Str} : w ∈ keys m ↔ num m w ≠ 0 :=
  ⟨good_val h, fun z => Classical.byContradiction fun y => z (num_none y)⟩
theorem good_eq {m1 m2 : List (Str × Int)} (h1 : Good m1) (h2 : Good m2) : mpEq m1 m2 = true ↔ num m1 = num m2 := by
  constructor
  · intro hh
    unfold mpEq at hh
    simp only [Bool.and_eq_true, beq_iff_eq, List.all_eq_true, decide_eq_true_eq] at hh
    obtain ⟨hl, ha⟩ := hh
    funext w
    have hs : ∀ w, w ∈ keys m2 → w ∈ keys m1 := by
      intro w hw
      refine Classical.byContradiction fun z => ?_
      have hn : (w :: keys m1).Nodup := List.nodup_cons.2 ⟨z, h1.1⟩
      have := nodup_le hn (m := keys m2) fun x hx => by
        rcases List.mem_cons.1 hx with rfl | hx
        · exact hw
        · obtain ⟨y, hy, ey⟩ := List.mem_map.1 hx
          rw [← ey]
          exact (ha y hy).1
      unfold keys at this
      simp only [List.length_cons, List.length_map] at this
      omega
    by_cases hw : w ∈ keys m1
    · obtain ⟨y, hy, ey⟩ := List.mem_map.1 hw
      rw [← show y.1 = w from ey, num_at h1.1 hy]
      exact (ha y hy).2
    · rw [num_none hw, num_none fun z => hw (hs w z)]
  · intro e
    have hk : ∀ w, w ∈ keys m1 ↔ w ∈ keys m2 := fun w => by rw [good_mem h1, good_mem h2, e]
    have hl : m1.length = m2.length := by
      have a := nodup_le h1.1 (m := keys m2) fun x hx => (hk x).1 hx
      have b := nodup_le h2.1 (m := keys m1) fun x hx => (hk x).2 hx
      unfold keys at a b
      rw [List.length_map, List.length_map] at a b
      omega
    unfold mpEq
    rw [hl, beq_self_eq_true, Bool.true_and, List.all_eq_true]
    intro x hx
    rw [decide_eq_true ((hk x.1).1 (List.mem_map_of_mem hx)), Bool.true_and, ← e, num_at h1.1 hx]
    exact beq_self_eq_true _
/-! ### list(d) -/
def gListD (xs : List V) (H : Hp) (Q : VK) : Prop := ∃ (a : Addr) (kvs : List (Key × V)), xs = [.ref a] ∧ Rd H a (.dK kvs) ∧ ∀ p, H p = Option.none → Q (.ref p) (upd H p (.lst (kvs.map fun kv => kV kv.1)))
theorem call_gListD {X : Cx} (hc : X.calm = true) : CallR X (.type "list") gListD := call_listD hc
section
variable {l : List Asn} {H : Hp} {d : Addr} {m : List (Str × Int)} {e : Nat} {Q : VK} {a b : Addr} {m1 m2 : List (Str × Int)} {e2 : Nat}
theorem kv_mp (m : List (Str × Int)) : ((mp m).map fun kv => kV kv.1) = (keys m).map V.str := by
  unfold keys
  rw [List.map_map, List.map_map]
  exact List.map_congr_left fun _ _ => rfl
theorem ld_mp (S : Sep l H) (hi : l[e]? = some (At d (.dK (mp m)))) (k : ∀ p H', Sep (At p (.lst ((keys m).map V.str)) :: l) H' → Q (.ref p) H') : gListD [.ref d] H Q :=
  ⟨d, mp m, rfl, .inl (S.at hi), fun p hp => by rw [kv_mp]; exact k p _ (S.new hp)⟩
theorem eq_mp (S : Sep l H) (hi : l[e]? = some (At a (.dK (mp m1)))) (hj : l[e2]? = some (At b (.dK (mp m2)))) (q : Q (.bl (mpEq m1 m2)) H) : rEqMp false (.ref a) (.ref b) H Q :=
  ⟨a, b, m1, m2, rfl, rfl, S.at hi, S.at hj, q⟩
theorem ne_mp (S : Sep l H) (hi : l[e]? = some (At a (.dK (mp m1)))) (hj : l[e2]? = some (At b (.dK (mp m2)))) (q : Q (.bl (!(mpEq m1 m2))) H) : rEqMp true (.ref a) (.ref b) H Q :=
  ⟨a, b, m1, m2, rfl, rfl, S.at hi, S.at hj, q⟩
end
local macro_rules | `(tactic| walk_at "v1") => `(tactic| (first
  | ((with_reducible refine' ld_mp (by assumption) ?hi ?_); (case hi => walk_at "has"); intro _ _ _)
  | ((with_reducible refine' eq_mp (by assumption) ?hi ?hj ?_); (case hi => walk_at "has"); (case hj => walk_at "has"))
  | ((with_reducible refine' ne_mp (by assumption) ?hi ?hj ?_); (case hi => walk_at "has"); (case hj => walk_at "has"))))
/-! ### a op b, own -/
section
variable {l : List Asn} {H : Hp} {C p q : Addr} {g h : Str → Int} {sp : Sp} {E : XK} {Q : VK} {e e2 : Nat}
theorem b_co (S : Sep l H) (hi : l[e]? = some (Co p C g)) (hj : l[e2]? = some (Co q C h)) (k : sp [.ref p, .ref q] H Q E) : rBinOwn C sp E (.ref p) (.ref q) H Q := by
  obtain ⟨dx, fs, h1⟩ := ins_co S hi
  obtain ⟨dy, gs, h2⟩ := ins_co S hj
  exact ⟨p, dx, fs, q, dy, gs, rfl, rfl, h1, h2, k⟩
/-- isinstance of counts -/
theorem i_co {D : Addr} {b : Bool} {K : PySem.W.Frag} {ns : List Str} (S : Sep l H) (hi : l[e]? = some (Co p C g)) (hC : Kl K C ns) (ki : Ki K C) (hk : PySem.W.kitOne K (.ref C) (.ref D) = some b) (k : Q (.bl b) H) : gIsi K [.ref p, .ref D] H Q := by
  obtain ⟨d, m, _, _, S1⟩ := co_open (S.pick hi)
  exact i_ob S1 (e := 0) rfl hC ki hk k
theorem i_coT {T : String} {b : Bool} {K : PySem.W.Frag} {ns : List Str} (S : Sep l H) (hi : l[e]? = some (Co p C g)) (hC : Kl K C ns) (ki : Ki K C) (hk : PySem.W.kitOne K (.ref C) (.type T) = some b) (k : Q (.bl b) H) : gIsi K [.ref p, .ty T] H Q := by
  obtain ⟨d, m, _, _, S1⟩ := co_open (S.pick hi)
  exact i_obT S1 (e := 0) rfl hC ki hk k
end
local macro_rules | `(tactic| walk_at "v1") => `(tactic| (first
  | ((with_reducible refine' b_co (by assumption) ?hi ?hj ?_); (case hi => walk_at "has"); (case hj => walk_at "has"))
  | ((with_reducible refine' i_co (by assumption) ?hi ?hC ?ki ?hk ?_); (case hi => walk_at "has"); (case hC => assumption); (case ki => assumption); (case hk => assumption))))

/-! more own operators of instances with a dict: -o, abs(o), n * o, o op= x, x in o, o[i], truth, != by ==, repr -/
section
open PyProof.Rows
section
variable {X : Cx} {CX : CXT} {n : Nat} {f C : Addr} {sp : Sp} {E : XK}
/-- a one-place own method -/
def rUnOwn (C : Addr) (sp : Sp) (E : XK) : V → Hp → VK → Prop := fun x H Q => ∃ a dx fs, x = V.ref a ∧ H a = some (.ins C dx fs) ∧ sp [V.ref a] H Q E
theorem un_ownNeg (hm : Meth X.K C (Str.ofString "__neg__") f) (F : FnR X.prog X.w X.K X.mg X.base CX n f sp) (hr : Room n X.A) (hx : Passes CX X E) : UnR X (unaryOp .USub) (rUnOwn C sp E) := by
  intro pins s σ H x v Q I rx h
  obtain ⟨a, dx, fs, rfl, ha, q⟩ := h
  cases (show v = Value.ref a from rx)
  obtain ⟨ox, od, J⟩ := ins_inst I ha
  obtain ⟨m, hF⟩ := I.fr
  exact PySem.W.ksp_neg hF I.ok.mod.kin J hm.at_ hm.fn (wpAny_call (run_fnR (us := [.ref a]) (vs := [.ref a]) F hr hx I (.cons rfl .nil) q))
/-- abs(o) -/
def rAbsOwn (C : Addr) (sp : Sp) (E : XK) : List V → Hp → VK → Prop := fun xs H Q => ∃ a dx fs, xs = [V.ref a] ∧ H a = some (.ins C dx fs) ∧ sp [V.ref a] H Q E
theorem call_ownAbs (hm : Meth X.K C (Str.ofString "__abs__") f) (F : FnR X.prog X.w X.K X.mg X.base CX n f sp) (hr : Room (n + 1) X.A) (hx : Passes CX X E) : CallR X (.builtin "abs") (rAbsOwn C sp E) := by
  intro pins s σ H xs us Q I r h
  obtain ⟨a, dx, fs, rfl, ha, q⟩ := h
  obtain ⟨u, rfl, ru⟩ := r.one
  cases (show u = Value.ref a from ru)
  obtain ⟨ox, od, J⟩ := ins_inst I ha
  obtain ⟨m, hF⟩ := I.fr
  refine Calls.call_function_entry PyProof.Rows.kind_abs PyProof.Rows.plain_abs PyProof.Rows.entry_abs (PyProof.Rows.args_abs _) ?_
  unfold Builtin.«abs»
  refine wpAny_bind (m := oneArg "abs" _) (wpAny_pure ?_)
  refine wpAny_bind (m := callSpecial? (.ref a) (Str.ofString "__abs__")) (PySem.W.special_fn (I.ok.mod.kin.keeps hF.keep) J hm.at_ (beq_iff_eq.mp hm.fn) ?_)
  refine wpAny_mono (wpAny_call (SlX.run_at (us := [.ref a]) (ws := [.ref a]) F (show Room n X.A.in1 from Room.in1 hr) I.env0.in1 hx I (.cons rfl .nil) q)) (fun w s' z => ?_) fun _ _ x => x
  exact wpAny_pure ⟨_, rfl, z⟩
/-- o op= y -/
def rInpOwn (C : Addr) (sp : Sp) (E : XK) : TIp := fun x y H Q => ∃ a dx fs, x = V.ref a ∧ H a = some (.ins C dx fs) ∧ sp [V.ref a, y] H Q E
theorem ip_own {op : Operator} (hm : Meth X.K C (PySem.dunderI op.info.2) f) (hs : PySem.W.selfFirst X.K C = true) (F : FnR X.prog X.w X.K X.mg X.base CX n f sp) (hr : Room n X.A) (hx : Passes CX X E) : PIp X op (rInpOwn C sp E) := by
  intro pins s σ H x y v u Q I rx ry h
  obtain ⟨a, dx, fs, rfl, ha, q⟩ := h
  cases (show v = Value.ref a from rx)
  obtain ⟨ox, od, J⟩ := ins_inst I ha
  obtain ⟨m, hF⟩ := I.fr
  refine PySem.W.ksp_inplace hF I.ok.mod.kin J hs hm.at_ hm.fn ?_
  refine wpAny_mono (wpAny_call (run_fnR (us := [.ref a, u]) (vs := [.ref a, y]) F hr hx I (.cons rfl (.cons ry .nil)) q)) (fun w s' z => ?_) fun _ _ x => x
  obtain ⟨z', H', I', rz, qz⟩ := z
  exact SlX.cmpback rz ⟨z', H', I', rz, qz⟩
/-- x in o -/
def rInOwn (neg : Bool) (C : Addr) (sp : Sp) (E : XK) : R2 := fun x y H Q => ∃ a dx fs, y = V.ref a ∧ H a = some (.ins C dx fs) ∧ sp [V.ref a, x] H (fun z H' => ∃ b : Bool, z = .bl b ∧ Q (.bl (if neg then !b else b)) H') E
theorem op_ownIn (hm : Meth X.K C (Str.ofString "__contains__") f) (F : FnR X.prog X.w X.K X.mg X.base CX n f sp) (hr : Room n X.A) (hx : Passes CX X E) : OpR X (compareOp .In) (rInOwn false C sp E) := by
  intro pins s σ H x y v u Q I rx ry h
  obtain ⟨a, dx, fs, rfl, ha, q⟩ := h
  cases (show u = Value.ref a from ry)
  obtain ⟨ox, od, J⟩ := ins_inst I ha
  obtain ⟨m, hF⟩ := I.fr
  refine PySem.W.in_K hF I.ok.mod.kin J hm.at_ hm.fn ?_
  refine wpAny_mono (wpAny_call (run_fnR (us := [.ref a, v]) (vs := [.ref a, x]) F hr hx I (.cons rfl (.cons rx .nil)) q)) (fun w s' z => ?_) fun _ _ x => x
  obtain ⟨z', H', I', rz, b, ez, qz⟩ := z
  subst ez
  cases (show w = Value.bool b from rz)
  exact wpAny_truthy_bool ⟨.bl b, H', I', rfl, qz⟩
/-- truth of o by __bool__ -/
def rTruOwn (C : Addr) (sp : Sp) (E : XK) : V → Hp → (Bool → Hp → Prop) → Prop := fun x H Q => ∃ a dx fs, x = V.ref a ∧ H a = some (.ins C dx fs) ∧ sp [V.ref a] H (fun z H' => ∃ b : Bool, z = .bl b ∧ Q b H') E
theorem tru_own (hm : Meth X.K C (Str.ofString "__bool__") f) (F : FnR X.prog X.w X.K X.mg X.base CX n f sp) (hr : Room n X.A) (hx : Passes CX X E) : TruR X (rTruOwn C sp E) := by
  intro pins s σ H x v Q I rx h
  obtain ⟨a, dx, fs, rfl, ha, q⟩ := h
  cases (show v = Value.ref a from rx)
  obtain ⟨ox, od, J⟩ := ins_inst I ha
  obtain ⟨m, hF⟩ := I.fr
  refine PySem.W.truthy_K hF I.ok.mod.kin J hm.at_ hm.fn ?_
  refine wpAny_mono (wpAny_call (run_fnR (us := [.ref a]) (vs := [.ref a]) F hr hx I (.cons rfl .nil) q)) (fun w s' z => ?_) fun _ _ x => x
  obtain ⟨z', H', I', rz, b, ez, qz⟩ := z
  subst ez
  cases (show w = Value.bool b from rz)
  exact ⟨H', I', qz⟩
/-- o[i] -/
theorem pe_ixOwn {a b : Expr} {ta tb : TE} {pos : Pos} (hm : Meth X.K C (Str.ofString "__getitem__") f) (hfn : PySem.W.fnIn X.K f = true) (F : FnR X.prog X.w X.K X.mg X.base CX n f sp) (hr : Room (n + 1) X.A) (hx : Passes CX X E) (ha : PE X a ta) (hb : PE X b tb)
    (hsl : ∀ o i, subscripted b true o i = runValue (.builtin "lifetime.subscript" ⟨[o, i], []⟩)) :
    PE X (.Subscript a b pos) (tOp (fun x y H Q => ∃ a dx fs, x = V.ref a ∧ H a = some (.ins C dx fs) ∧ sp [V.ref a, y] H Q E) ta tb) := by
  refine ⟨fun pins s σ H Q I h => ?_⟩
  refine Subscript_ (binT ha hb I h fun v u s2 x y H2 I2 rx ry q => ?_)
  obtain ⟨a', dx, fs, rfl, ha', q⟩ := q
  cases (show v = Value.ref a' from rx)
  obtain ⟨ox, od, J⟩ := ins_inst I2 ha'
  obtain ⟨m, hF⟩ := I2.fr
  refine PySem.W.sub_K hF I2.ok.mod.kin J hm.at_ hfn hm.fn ?_ (hsl _ _)
  exact wpAny_call (SlX.run_at (us := [.ref a', u]) (ws := [.ref a', y]) F (show Room n X.A.in1 from Room.in1 hr) I2.env0.in1 hx I2 (.cons rfl (.cons ry .nil)) q)
/-- o != p by an own == -/
theorem ifBound_objNe {M : Model} {A : Around} {E : Value → Shared → Prop} {s : Shared} {K : PySem.W.Frag} {x C : Addr} {ox : Obj} {od : Option Obj} {args : List Value} {Q : Option Value → Shared → Prop} (X : K.In s.heap) (I : PySem.W.InstAt s.heap x ox C od) (hs : PySem.W.findIn K (.ref C) "__ne__" = some (some (.builtin "object.__ne__")))
    (h : wpAny M A (call (.builtin "object.__ne__") (.ref x :: args)) (fun v => Q (some v)) E s) : wpAny M A (callSpecialIfBound? (.ref x) "__ne__" args) Q E s := by
  simp only [callSpecialIfBound?, bindSpecialIfBound?]
  refine wpAny_holding (wpAny_bind (wpAny_bind (wpAny_bind (I.type.here ((PySem.W.looks_findIn X hs).here ?_)))))
  refine wpAny_bind (wpAny_askSetting (wpAny_ite ?_))
  have fin : wpAny M A (call (.builtin "object.__ne__") ([.ref x] ++ args) >>= fun v => pure (some v)) Q E s := wpAny_bind (wpAny_mono h (fun v s' h' => wpAny_pure h') fun _ _ h' => h')
  split
  · exact wpAny_bind (wpAny_of_eq (F.cmp_object.ne.bind _) (wpAny_pure (by exact fin)))
  · exact wpAny_tryCatch (wpAny_bind (wpAny_of_eq (F.cmp_object.ne.bind _) (wpAny_pure (by exact fin))))
/-- o != p, both of C -/
def rNeOwn (C : Addr) (sp : Sp) (E : XK) : R2 := fun x y H Q => ∃ a dx fs b dy gs, x = V.ref a ∧ y = V.ref b ∧ H a = some (.ins C dx fs) ∧ H b = some (.ins C dy gs) ∧ sp [x, y] H (fun z H' => ∃ c : Bool, z = .bl c ∧ Q (.bl (!c)) H') E
/-- o != p, both of C, with an own == and none for != -/
theorem op_ownNe (hne : PySem.W.findIn X.K (.ref C) "__ne__" = some (some (.builtin "object.__ne__"))) (hob : PySem.W.mroIn X.K C (.type "object") = some true) (hm : Meth X.K C (Str.ofString "__eq__") f) (hs : PySem.W.notFirst X.K C (.ref C) = true) (F : FnR X.prog X.w X.K X.mg X.base CX n f sp) (hr : Room (n + 1) X.A) (hu : X.A.units + 64 < cLine) (hx : Passes CX X E) :
    OpR X (compareOp .NotEq) (rNeOwn C sp E) := by
  intro pins s σ H x y v u Q I rx ry h
  obtain ⟨a, dx, fs, b, dy, gs, rfl, rfl, ha, hb, q⟩ := h
  cases (show v = Value.ref a from rx)
  cases (show u = Value.ref b from ry)
  obtain ⟨ox, od, J⟩ := ins_inst I ha
  obtain ⟨ox', od', J'⟩ := ins_inst I hb
  obtain ⟨m, hF⟩ := I.fr
  have XK := I.ok.mod.kin.keeps hF.keep
  have entry : wpAny (model X.prog X.w) X.A.in1 (Builtin.«object.__ne__» ⟨[.ref a, .ref b], []⟩) (fun r s' => ∃ w, r = .done (.ret w) ∧ (w ≠ .notImplemented ∧ EP X pins σ Q w s')) X.xe s := by
    unfold Builtin.«object.__ne__»
    repeat (first
      | with_reducible refine wpAny_cRoomFor (show X.A.in1.units < cLine by show X.A.units + 1 < cLine; omega) ?_
      | (refine wpAny_bind (m := callSpecialIfBound? (.ref a) (Str.ofString "__eq__") [.ref b]) (PySem.W.ifBound_K XK J hm.at_ hm.fn
          (wpAny_mono (wpAny_call (SlX.run_at (us := [.ref a, .ref b]) (ws := [.ref a, .ref b]) F (show Room n X.A.in1 from Room.in1 hr) I.env0.in1 hx I (.cons rfl (.cons rfl .nil)) q)) (fun w s' z => by
            obtain ⟨z', H', I', rz, c, ez, qz⟩ := z
            subst ez
            cases (show w = Value.bool c from rz)
            repeat (first | exact ⟨_, rfl, nofun, .bl (!c), H', I', rfl, qz⟩ | exact wpAny_pure ⟨_, rfl, nofun, .bl (!c), H', I', rfl, qz⟩ | (refine wpAny_bind (m := truthy (.bool _)) (wpAny_truthy_bool ?_)) | wp_step)) fun _ _ e => e)))
      | wp_step)
  have one : wpAny (model X.prog X.w) X.A (tryCompare (.ref a) "__ne__" (.ref b)) (fun r s' => ∃ w, r = some w ∧ EP X pins σ Q w s') X.xe s := by
    unfold tryCompare
    refine wpAny_bind (ifBound_objNe XK J hne ?_)
    refine wpAny_call (codeAny_call_builtin PySem.F.cmp_object.ne.plain PySem.F.cmpEntry_ne (PySem.W.check_slot PySem.F.cmpKind_ne PySem.F.cmpSplit_ne (J.type.andThen (PySem.W.looks_mroIn XK hob)) (PySem.F.cmpArgs_ne _ _) (wpAny_mono entry (fun r s' z => ?_) fun _ _ e => e)))
    obtain ⟨w, rfl, hw, ep⟩ := z
    cases w <;> first | exact (hw rfl).elim | exact wpAny_pure ⟨_, rfl, ep⟩
  show wpAny _ _ (richCompare .NotEq (.ref a) (.ref b)) _ _ _
  unfold richCompare
  simp only [oneThing_ref]
  refine wpAny_holding (wpAny_bind (wpAny_cRoomFor (by omega) ?_))
  refine wpAny_bind (J.type.here (wpAny_bind (J'.type.here ?_)))
  rw [show (Value.ref C != Value.ref C) = false from by simp]
  simp only [Bool.false_eq_true, if_false]
  refine wpAny_bind (wpAny_pure ?_)
  simp only [Bool.false_eq_true, if_false]
  refine wpAny_bind (m := tryCompare (.ref a) _ (.ref b)) (wpAny_mono one (fun r s' z => ?_) fun _ _ e => e)
  obtain ⟨w, rfl, ep⟩ := z
  exact wpAny_pure ep
end

end
/-! how many words; two counts beside each other; steps of the own operators -/
/-- at most n words with a number -/
def Sz (g : Str → Int) (n : Nat) : Prop := ∃ ws : List Str, ws.length ≤ n ∧ ∀ w, g w ≠ 0 → w ∈ ws
theorem Sz.le {g : Str → Int} {n m : Nat} (h : Sz g n) (k : n ≤ m) : Sz g m := h.imp fun _ h => ⟨Nat.le_trans h.1 k, h.2⟩
theorem Sz.num {m : List (Str × Int)} : Sz (Y.num m) m.length := ⟨keys m, by unfold keys; rw [List.length_map]; exact Nat.le_refl _, fun w h => Classical.byContradiction fun z => h (num_none z)⟩
theorem Sz.of {m : List (Str × Int)} {g : Str → Int} {n : Nat} (e : Y.num m = g) (h : m.length ≤ n) : Sz g n := e ▸ Sz.num.le h
theorem Sz.zero : Sz (fun _ => 0) 0 := ⟨[], Nat.le_refl _, fun _ h => (h rfl).elim⟩
theorem Sz.map {g : Str → Int} {n : Nat} (f : Str → Int) (h : Sz g n) (k : ∀ w, g w = 0 → f w = 0) : Sz f n := h.imp fun _ h => ⟨h.1, fun w z => h.2 w fun y => z (k w y)⟩
theorem Sz.two {g h : Str → Int} {n m : Nat} (f : Str → Int) (a : Sz g n) (b : Sz h m) (k : ∀ w, g w = 0 → h w = 0 → f w = 0) : Sz f (n + m) := by
  obtain ⟨ws, h1, h2⟩ := a
  obtain ⟨us, h3, h4⟩ := b
  refine ⟨ws ++ us, by rw [List.length_append]; omega, fun w z => ?_⟩
  by_cases e : g w = 0
  · by_cases e2 : h w = 0
    · exact (z (k w e e2)).elim
    · exact List.mem_append_right _ (h4 w e2)
  · exact List.mem_append_left _ (h2 w e)
theorem Sz.put {g : Str → Int} {n : Nat} (h : Sz g n) (v : Str) (x : Int) : Sz (fun w => if w = v then x else g w) (n + 1) := by
  obtain ⟨ws, h1, h2⟩ := h
  refine ⟨v :: ws, by rw [List.length_cons]; omega, fun w z => ?_⟩
  by_cases e : w = v
  · rw [e]; exact List.mem_cons_self
  · have z : (if w = v then x else g w) ≠ 0 := z
    rw [if_neg e] at z
    exact List.mem_cons_of_mem _ (h2 w z)
theorem Sz.psum (ps : List (Str × Int)) : Sz (Y.psum ps) ps.length := by
  refine ⟨keys ps, by unfold keys; rw [List.length_map]; exact Nat.le_refl _, fun w h => ?_⟩
  induction ps with
  | nil => exact (h rfl).elim
  | cons x ps ih =>
    show w ∈ x.1 :: keys ps
    by_cases e : x.1 = w
    · rw [e]; exact List.mem_cons_self
    · refine List.mem_cons_of_mem _ (ih ?_)
      intro z
      refine h ?_
      show (if x.1 = w then x.2 else 0) + Y.psum ps w = 0
      rw [if_neg e, z]; rfl
theorem Good.sz {m : List (Str × Int)} {g : Str → Int} {n : Nat} (h : Good m) (e : Y.num m = g) (k : Sz g n) : m.length ≤ n := by
  obtain ⟨ws, h1, h2⟩ := k
  have := nodup_le h.1 (m := ws) fun w hw => h2 w (by rw [← e]; exact good_val h hw)
  unfold keys at this
  rw [List.length_map] at this
  omega
/-! ### del d[k] -/
def mdel (m : List (Str × Int)) (w : Str) : List (Str × Int) := m.filter fun x => decide (x.1 ≠ w)
theorem num_del (m : List (Str × Int)) (w v : Str) : num (mdel m w) v = if v = w then 0 else num m v := by
  induction m with
  | nil => unfold mdel; simp [num]
  | cons x m ih =>
    unfold mdel at ih ⊢
    rw [List.filter_cons]
    by_cases h : x.1 = w
    · rw [if_neg (by simp [h]), ih]
      show (if v = w then 0 else num m v) = if v = w then 0 else (if x.1 = v then x.2 else num m v)
      by_cases e : v = w
      · rw [if_pos e, if_pos e]
      · rw [if_neg e, if_neg e, if_neg (fun z => e (z.symm.trans h))]
    · rw [if_pos (decide_eq_true h)]
      show (if x.1 = v then x.2 else num _ v) = if v = w then 0 else (if x.1 = v then x.2 else num m v)
      rw [ih]
      by_cases e : v = w
      · rw [if_pos e, if_pos e, if_neg (fun z => h (z.trans e))]
      · rw [if_neg e, if_neg e]
theorem drop_mp (m : List (Str × Int)) (w : Str) : dropK (mp m) (Sum.inr w : Key) = mp (mdel m w) := by
  unfold dropK mdel
  induction m with
  | nil => rfl
  | cons x m ih =>
    show List.filter _ ((Sum.inr x.1, V.int x.2) :: mp m) = _
    rw [List.filter_cons, List.filter_cons, ih]
    by_cases h : x.1 = w
    · rw [if_neg (by simp [h]), if_neg (by simp [h])]
    · rw [if_pos (by simp [h]), if_pos (decide_eq_true h)]; rfl
theorem good_del {m : List (Str × Int)} (h : Good m) (w : Str) : Good (mdel m w) :=
  ⟨List.Nodup.sublist (List.Sublist.map _ List.filter_sublist) h.1, fun x hx => h.2.1 x (List.mem_filter.1 hx).1, Nat.le_trans (List.length_filter_le _ _) h.2.2⟩
section
variable {l : List Asn} {H : Hp} {σ : L2.St} {d : Addr} {m : List (Str × Int)} {w : Str} {e : Nat} {td ty : TE} {nx bk ct : L2.St → Hp → Prop} {rt : VK}
def gDDel (x y : V) (H : Hp) (R : Hp → Prop) : Prop := ∃ a kvs k, x = .ref a ∧ H a = some (.dK kvs) ∧ y = kV k ∧ (valV kvs k).isSome = true ∧ R (upd H a (.dK (dropK kvs k)))
theorem r_ddel (q : td σ H fun x H1 => ty σ H1 fun y H2 => gDDel x y H2 fun H3 => nx σ H3) : sDDel td ty ⟨nx, rt, bk, ct⟩ σ H := q
theorem dl_mp {R : Hp → Prop} (S : Sep l H) (hi : l[e]? = some (At d (.dK (mp m)))) (hw : w ∈ keys m) (k : ∀ H', Sep (l.set e (At d (.dK (mp (mdel m w))))) H' → R H') : gDDel (.ref d) (.str w) H R :=
  ⟨d, mp m, Sum.inr w, rfl, S.at hi, rfl, by rw [val_mp, if_pos hw]; rfl, by rw [drop_mp]; exact k _ (S.upd hi fun _ z => nomatch z)⟩
end
/-! ### x in d, x not in d -/
section
variable {l : List Asn} {H : Hp} {σ : L2.St} {d : Addr} {m : List (Str × Int)} {w : Str} {e : Nat} {td ty : TE} {Q : VK} {RO : Option V → Prop}
theorem d_notin (q : ty σ H fun y H1 => td σ H1 fun x H2 => ∃ a o, x = .ref a ∧ DGet H2 a y o ∧ Q (.bl (!o.isSome)) H2) : tDNotIn ty td σ H Q := q
theorem e_inF {od : Obj} (S : Sep l H) (hi : l[e]? = some (At d (.frz od (.dK (mp m))))) (q : ∀ o : Option V, o.isSome = decide (w ∈ keys m) → RO o) : ∃ a o, V.ref d = .ref a ∧ DGet H a (.str w) o ∧ RO o := ⟨d, _, rfl, dget_of (.inr ⟨od, S.at hi⟩), q _ (by
  rw [val_mp]
  by_cases hw : w ∈ keys m
  · rw [decide_eq_true hw, if_pos hw]; rfl
  · rw [decide_eq_false hw, if_neg hw]; rfl)⟩
end
local macro_rules | `(tactic| walk_at "v1") => `(tactic| (first
  | with_reducible refine d_notin ?_
  | ((with_reducible refine' e_inF (by assumption) ?hi ?_); (case hi => walk_at "has"); (refine fun o ho => ?_); rw [ho]; clear ho)))
/-! ### min, max of two -/
def gMin2 : List V → Hp → VK → Prop := fun xs H Q => ∃ i j, xs = [V.int i, V.int j] ∧ Q (V.int (if j < i then j else i)) H
def gMax2 : List V → Hp → VK → Prop := fun xs H Q => ∃ i j, xs = [V.int i, V.int j] ∧ Q (V.int (if j > i then j else i)) H
theorem call_gMin2 {X : Cx} (hc : X.calm = true) : CallR X (.builtin "min") gMin2 := call_min2 hc
theorem call_gMax2 {X : Cx} (hc : X.calm = true) : CallR X (.builtin "max") gMax2 := call_max2 hc
section
variable {l : List Asn} {H : Hp} {σ : L2.St} {Q : VK} {m n : Int} {p q C : Addr} {g h : Str → Int} {sp : Sp} {E : XK} {e e2 : Nat} {K : PySem.W.Frag} {x y : V}
theorem o_min2 (k : Q (.int (if n < m then n else m)) H) : gMin2 [.int m, .int n] H Q := ⟨m, n, rfl, k⟩
theorem o_max2 (k : Q (.int (if n > m then n else m)) H) : gMax2 [.int m, .int n] H Q := ⟨m, n, rfl, k⟩
theorem u_co (S : Sep l H) (hi : l[e]? = some (Co p C g)) (k : sp [.ref p] H Q E) : rUnOwn C sp E (.ref p) H Q := by
  obtain ⟨dx, fs, h1⟩ := ins_co S hi
  exact ⟨p, dx, fs, rfl, h1, k⟩
theorem ab_co (S : Sep l H) (hi : l[e]? = some (Co p C g)) (k : sp [.ref p] H Q E) : rAbsOwn C sp E [.ref p] H Q := by
  obtain ⟨dx, fs, h1⟩ := ins_co S hi
  exact ⟨p, dx, fs, rfl, h1, k⟩
theorem ip_co (S : Sep l H) (hi : l[e]? = some (Co p C g)) (k : sp [.ref p, y] H Q E) : rInpOwn C sp E (.ref p) y H Q := by
  obtain ⟨dx, fs, h1⟩ := ins_co S hi
  exact ⟨p, dx, fs, rfl, h1, k⟩
theorem in_co {neg : Bool} (S : Sep l H) (hi : l[e]? = some (Co p C g)) (k : sp [.ref p, x] H (fun z H' => ∃ b : Bool, z = .bl b ∧ Q (.bl (if neg then !b else b)) H') E) : rInOwn neg C sp E x (.ref p) H Q := by
  obtain ⟨dx, fs, h1⟩ := ins_co S hi
  exact ⟨p, dx, fs, rfl, h1, k⟩
theorem ix_co {y : V} (S : Sep l H) (hi : l[e]? = some (Co p C g)) (k : sp [.ref p, y] H Q E) : ∃ a dx fs, V.ref p = V.ref a ∧ H a = some (.ins C dx fs) ∧ sp [V.ref a, y] H Q E := by
  obtain ⟨dx, fs, h1⟩ := ins_co S hi
  exact ⟨p, dx, fs, rfl, h1, k⟩
theorem tr_co {R : Bool → Hp → Prop} (S : Sep l H) (hi : l[e]? = some (Co p C g)) (k : sp [.ref p] H (fun z H' => ∃ b : Bool, z = .bl b ∧ R b H') E) : rTruOwn C sp E (.ref p) H R := by
  obtain ⟨dx, fs, h1⟩ := ins_co S hi
  exact ⟨p, dx, fs, rfl, h1, k⟩
end
local macro_rules | `(tactic| walk_at "v1") => `(tactic| (first
  | with_reducible refine r_ddel ?_
  | with_reducible refine o_min2 ?_
  | with_reducible refine o_max2 ?_
  | ((with_reducible refine' dl_mp (by assumption) ?hi (by assumption) ?_); (case hi => walk_at "has"); intro _ S; simp only [List.set] at S)
  | ((with_reducible refine' u_co (by assumption) ?hi ?_); (case hi => walk_at "has"))
  | ((with_reducible refine' ab_co (by assumption) ?hi ?_); (case hi => walk_at "has"))
  | ((with_reducible refine' ip_co (by assumption) ?hi ?_); (case hi => walk_at "has"))
  | ((with_reducible refine' in_co (by assumption) ?hi ?_); (case hi => walk_at "has"))
  | ((with_reducible refine' ix_co (by assumption) ?hi ?_); (case hi => walk_at "has"))
  | ((with_reducible refine' tr_co (by assumption) ?hi ?_); (case hi => walk_at "has"))))
/-! ### words with two numbers -/
abbrev tri (g h : Str → Int) (ws : List Str) : List PyData := ws.map fun w => PyData.tuple [.str w, .int (g w), .int (h w)]
/-- ws are words, each once, and all that have a number -/
def Bs (g h : Str → Int) (ws : List Str) : Prop := ws.Nodup ∧ (∀ w ∈ ws, Wd w) ∧ ∀ w, w ∉ ws → g w = 0 ∧ h w = 0
theorem tri_get {H : Hp} {vs : List V} {g h : Str → Int} {ws : List Str} {i : Nat} {v : V} (D : IsDs H vs (tri g h ws)) (e : vs[i]? = some v) : ∃ q w, ws[i]? = some w ∧ v = .ref q ∧ H q = some (.tup [.str w, .int (g w), .int (h w)]) := by
  obtain ⟨d, e1, h1⟩ := D.get e
  rw [List.getElem?_map] at e1
  cases e2 : ws[i]? with
  | none => rw [e2] at e1; cases e1
  | some w =>
    rw [e2] at e1
    cases e1
    cases h1 with
    | tup hq r =>
      cases r with
      | cons a r =>
        cases a
        cases r with
        | cons b r =>
          cases b
          cases r with
          | cons c r =>
            cases c
            cases r
            exact ⟨_, w, rfl, rfl, hq⟩
theorem tri_isD {H : Hp} {q : Addr} {w : Str} {m n : Int} (h : H q = some (.tup [.str w, .int m, .int n])) : IsD H (.ref q) (.tuple [.str w, .int m, .int n]) :=
  .tup h (.cons (.str w) (.cons (.int m) (.cons (.int n) .nil)))
theorem tri_len {H : Hp} {vs : List V} {g h : Str → Int} {ws : List Str} (D : IsDs H vs (tri g h ws)) : vs.length = ws.length := by rw [D.len, List.length_map]
/-- the words with what f says of them -/
abbrev fps (f : Str → Int) (ws : List Str) : List (Str × Int) := ws.map fun w => (w, f w)
theorem keys_fps (f : Str → Int) (ws : List Str) : keys (fps f ws) = ws := by
  unfold keys
  rw [List.map_map]
  conv => rhs; rw [← List.map_id ws]
  exact List.map_congr_left fun _ _ => rfl
theorem num_fps {f : Str → Int} : ∀ {ws : List Str}, ws.Nodup → (∀ w, w ∉ ws → f w = 0) → num (fps f ws) = f := by
  intro ws hn h0
  funext w
  by_cases hw : w ∈ ws
  · have := num_at (m := fps f ws) (x := (w, f w)) (by rw [keys_fps]; exact hn) (List.mem_map.2 ⟨w, hw, rfl⟩)
    exact this
  · rw [h0 w hw]
    exact num_none (by rw [keys_fps]; exact hw)
theorem fps_snoc {H : Hp} {f : Str → Int} {us : List V} {ws : List Str} {w : Str} {q : Addr} (D : IsDs H us (pds (fps f ws))) (h : H q = some (.tup [.str w, .int (f w)])) : IsDs H (us ++ [.ref q]) (pds (fps f (ws ++ [w]))) := by
  have h1 := IsDs.snoc (pair_isD h) D
  have e : pds (fps f ws) ++ [pd (w, f w)] = pds (fps f (ws ++ [w])) := by simp
  rw [← e]; exact h1
theorem fps_wd {f : Str → Int} {ws : List Str} (h : ∀ w ∈ ws, Wd w) : ∀ x ∈ fps f ws, Wd x.1 := fun x hx => by
  obtain ⟨w, hw, rfl⟩ := List.mem_map.1 hx
  exact h w hw
/-- counts at an index -/
theorem Sep.co {l : List Asn} {H : Hp} {i : Nat} {p C : Addr} {g : Str → Int} (S : Sep l H) (e : l[i]? = some (Co p C g)) : ∃ d m, Good m ∧ num m = g ∧ Sep (Ob p C [("_numbers", .ref d)] :: At d (.dK (mp m)) :: l.eraseIdx i) H := co_open (S.pick e)
theorem Sep.coBack {l : List Asn} {H : Hp} {i : Nat} {p C d : Addr} {g : Str → Int} {m : List (Str × Int)} (e : l[i]? = some (Co p C g)) (h : Good m) (h2 : num m = g) (S : Sep (Ob p C [("_numbers", .ref d)] :: At d (.dK (mp m)) :: l.eraseIdx i) H) : Sep l H := Sep.backS e (co_close h h2 S)

/-! walks over a dict that is an attribute; counts and ints multiplied -/
theorem mp_get' {m : List (Str × Int)} {i : Nat} {k : Key} {v : V} (h : (mp m)[i]? = some (k, v)) : ∃ w n, m[i]? = some (w, n) ∧ k = Sum.inr w ∧ v = .int n := by
  rw [List.getElem?_map] at h
  cases e : m[i]? with
  | none => rw [e] at h; cases h
  | some x =>
    rw [e] at h
    cases h
    exact ⟨x.1, x.2, rfl, rfl, rfl⟩
/-- .. over a dict, locked, the dict read where it is locked already -/
theorem lcK2 {σ : L2.St} {H : Hp} {g : TG} {tt : TT} {te ta : TE} {vs : List Nat} {Q : VK} {l : List Asn} {p : Addr} {e : Nat} {kvs : List (Key × V)} (S : Sep l H) (hi : l[e]? = some (At p (.dK kvs))) (Pv : Obj → Addr → Nat → Hp → Prop) (h0 : ∀ od D H', Sep (At D (.lst []) :: l.set e (At p (.frz od (.dK kvs)))) H' → Pv od D 0 H') (hl : ∀ od D i H, Pv od D i H → H p = some (.frz od (.dK kvs)))
    (hs : ∀ od D i k v H, kvs[i]? = some (k, v) → Pv od D i H → LcT g tt ta vs σ (kV k) D (Pv od D (i + 1)) H) (hd : ∀ od D H, Pv od D kvs.length H → Q (.ref D) (upd H p (.dK kvs))) (hv : ∀ od H' R, Sep (l.set e (At p (.frz od (.dK kvs)))) H' → R (.ref p) H' → te σ H' R) : tLockE (tLc (iKeys te) g tt ta vs) σ H Q := by
  refine ⟨p, .dK kvs, S.at hi, trivial, fun od => ?_⟩
  have S' := S.upd hi (o' := .frz od (.dK kvs)) (fun _ z => nomatch z)
  show te σ _ _
  refine hv od _ _ S' ?_
  refine ⟨p, od, rfl, .inl ⟨kvs, upd_same, fun D hD => ⟨fun i m H => m = kvs.length - i ∧ i ≤ kvs.length ∧ Pv od D i H, ⟨kvs.length, by simp, Nat.zero_le _, h0 od D _ (S'.new hD)⟩, ?_⟩⟩⟩
  rintro i m H ⟨rfl, hi, q⟩
  have hq := hl od D i H q
  by_cases hlt : i < kvs.length
  · refine .inr ⟨⟨hq, hlt⟩, Pv od D (i + 1), fun H' p' => ⟨kvs.length - (i + 1), by omega, rfl, hlt, p'⟩, fun x H' y => ?_⟩
    obtain ⟨rfl, k, v, ek, rfl⟩ := y
    exact hs od D i k v _ ek q
  · have e : i = kvs.length := by omega
    subst e
    exact .inl ⟨⟨hq, Nat.le_refl _⟩, hq, hd od D H q⟩
/-- .. over e.items(), locked, e read where the dict is locked already -/
theorem lcI2 {σ : L2.St} {H : Hp} {g : TG} {tt : TT} {te ta : TE} {vs : List Nat} {Q : VK} {l : List Asn} {p : Addr} {e : Nat} {kvs : List (Key × V)} (S : Sep l H) (hi : l[e]? = some (At p (.dK kvs))) (Pv : Obj → Addr → Nat → Hp → Prop) (h0 : ∀ od D H', Sep (At D (.lst []) :: l.set e (At p (.frz od (.dK kvs)))) H' → Pv od D 0 H') (hl : ∀ od D i H, Pv od D i H → H p = some (.frz od (.dK kvs)))
    (hs : ∀ od D i k v T H H', kvs[i]? = some (k, v) → Pv od D i H → H T = none → H' = upd H T (.tup [kV k, v]) → LcT g tt ta vs σ (.ref T) D (Pv od D (i + 1)) H') (hd : ∀ od D H, Pv od D kvs.length H → Q (.ref D) (upd H p (.dK kvs))) (hv : ∀ od H' R, Sep (l.set e (At p (.frz od (.dK kvs)))) H' → R (.ref p) H' → te σ H' R) : tLockE (tLc (iItems te) g tt ta vs) σ H Q := by
  refine ⟨p, .dK kvs, S.at hi, trivial, fun od => ?_⟩
  have S' := S.upd hi (o' := .frz od (.dK kvs)) (fun _ z => nomatch z)
  show te σ _ _
  refine hv od _ _ S' ?_
  refine ⟨p, od, kvs, rfl, upd_same, fun D hD => ⟨fun i m H => m = kvs.length - i ∧ i ≤ kvs.length ∧ Pv od D i H, ⟨kvs.length, by simp, Nat.zero_le _, h0 od D _ (S'.new hD)⟩, ?_⟩⟩
  rintro i m H ⟨rfl, hi, q⟩
  have hq := hl od D i H q
  by_cases hlt : i < kvs.length
  · refine .inr ⟨⟨hq, hlt⟩, Pv od D (i + 1), fun H' p' => ⟨kvs.length - (i + 1), by omega, rfl, hlt, p'⟩, fun x H' y => ?_⟩
    obtain ⟨T, k, v, ek, rfl, hn, rfl⟩ := y
    exact hs od D i k v T H _ ek q hn rfl
  · have e : i = kvs.length := by omega
    subst e
    exact .inl ⟨⟨hq, Nat.le_refl _⟩, hq, hd od D H q⟩
theorem asc_nodup {ws : List Str} (h : Asc ws) : ws.Nodup := List.Pairwise.imp (fun {a b} (h : lt' a b) (e : a = b) => lt_irr b (e ▸ h)) h
theorem int_perm {xs ys : List Int} (h : xs.Perm ys) : xs.sum = ys.sum := by
  induction h with
  | nil => rfl
  | cons x _ ih => rw [List.sum_cons, List.sum_cons, ih]
  | swap x y l => rw [List.sum_cons, List.sum_cons, List.sum_cons, List.sum_cons]; omega
  | trans _ _ h1 h2 => rw [h1, h2]
theorem keys_nd {L : List (Str × Int)} (h : (keys L).Nodup) : L.Nodup := by
  induction L with
  | nil => exact List.nodup_nil
  | cons x L ih =>
    have h' := List.nodup_cons.1 h
    exact List.nodup_cons.2 ⟨fun z => h'.1 (List.mem_map_of_mem z), ih h'.2⟩
theorem perm_told {m L : List (Str × Int)} (hG : Good m) (hL : Told (num m) L) : m.Perm L := by
  refine (List.perm_ext_iff_of_nodup (keys_nd hG.1) (keys_nd (asc_nodup hL.1))).2 fun x => ?_
  constructor
  · intro hx
    have h1 := num_at hG.1 hx
    have h2 := (hG.2.1 x hx).1
    obtain ⟨y, hy, ey⟩ := List.mem_map.1 ((hL.2.1 x.1).2 (by rw [h1]; exact h2))
    have h3 := hL.2.2 y hy
    have ey' : y.1 = x.1 := ey
    rw [ey', h1] at h3
    have : y = x := Prod.ext ey' h3
    exact this ▸ hy
  · intro hx
    have h3 := hL.2.2 x hx
    have hk : x.1 ∈ keys m := Classical.byContradiction fun z => (hL.2.1 x.1).1 (List.mem_map_of_mem hx) (num_none z)
    have h4 := key_num hG.1 hk
    rw [← h3] at h4
    exact h4
theorem len_sub : ∀ {xs ys : List Str}, xs.Nodup → (∀ x ∈ xs, x ∈ ys) → xs.length ≤ ys.length
  | [], _, _, _ => Nat.zero_le _
  | x :: xs, ys, hn, h => by
    have hn' := List.nodup_cons.1 hn
    have hx := h x List.mem_cons_self
    have h1 := len_sub (ys := ys.erase x) hn'.2 fun y hy => (List.mem_erase_of_ne (fun (e : y = x) => hn'.1 (by rw [← e]; exact hy))).2 (h y (List.mem_cons_of_mem _ hy))
    rw [List.length_erase_of_mem hx] at h1
    have : 0 < ys.length := List.length_pos_of_mem hx
    rw [List.length_cons]; omega
theorem good_len {m mm : List (Str × Int)} (h : Good m) (e : num mm = num m) : m.length ≤ mm.length := by
  have h1 := len_sub (xs := keys m) (ys := keys mm) h.1 fun w hw => by
    obtain ⟨x, hx, ex⟩ := List.mem_map.1 hw
    refine Classical.byContradiction fun z => (h.2.1 x hx).1 ?_
    rw [← num_at h.1 hx, ← e]
    show num mm x.1 = 0
    rw [show x.1 = w from ex]
    exact num_none z
  unfold keys at h1
  rwa [List.length_map, List.length_map] at h1
theorem good_put {m : List (Str × Int)} {w : Str} {n : Int} (h : Good m) (hw : Wd w) (hn : n ≠ 0) (hz : m.length < 500) : Good (mput m w n) := by
  refine ⟨nodup_put h.1 w n, fun x hx => ?_, Nat.le_trans (len_put _ _ _) (by omega)⟩
  have h1 := num_at (nodup_put h.1 w n) hx
  rw [num_put] at h1
  by_cases e : x.1 = w
  · rw [if_pos e] at h1
    exact ⟨h1 ▸ hn, e ▸ hw⟩
  · rw [if_neg e] at h1
    rcases mem_put (List.mem_map_of_mem hx : x.1 ∈ keys (mput m w n)) with z | z
    · exact (e z).elim
    · obtain ⟨y, hy, ey⟩ := List.mem_map.1 z
      have h2 := num_at h.1 hy
      have h3 := h.2.1 y hy
      rw [show y.1 = x.1 from ey] at h2 h3
      rw [← h1, h2]
      exact h3
theorem erase_get {α : Type} {l : List α} {i j : Nat} {x : α} (h : i ≠ j) (e : l[j]? = some x) : (l.eraseIdx i)[if j < i then j else j - 1]? = some x := by
  rw [List.getElem?_eraseIdx]
  by_cases c : j < i
  · rw [if_pos c, if_pos c]; exact e
  · rw [if_neg c, if_neg (by omega), show j - 1 + 1 = j by omega]; exact e
theorem tri_snoc {g h : Str → Int} {ws : List Str} {w : Str} : tri g h (ws ++ [w]) = tri g h ws ++ [PyData.tuple [.str w, .int (g w), .int (h w)]] := by simp
/-! ### o * n, n * o -/
/-- what the lookups of * beside an int say -/
structure MulI (K : PySem.W.Frag) (C : Addr) : Prop where
  hr : ∃ rc : Option Value, PySem.W.findIn K (.ref C) (PySem.dunderR "mul") = some rc ∧ (rc = none ∨ ∃ g : Addr, rc = some (.ref g))
  h1 : ∃ fo, PySem.W.findIn K (.type "int") (PySem.dunder "mul") = some fo
  h2 : ∃ ro, PySem.W.findIn K (.type "int") (PySem.dunderR "mul") = some ro
  su : PySem.W.subIn K (.type "int") (.ref C) = some false
  us : PySem.W.subIn K (.ref C) (.type "int") = some false
section
variable {X : Cx} {CX : CXT} {n : Nat} {f C : Addr} {sp : Sp} {E : XK}
/-- o * n, n an int -/
def rMulI (C : Addr) (sp : Sp) (E : XK) : R2 := fun x y H Q => ∃ a dx fs i, x = V.ref a ∧ y = V.int i ∧ H a = some (.ins C dx fs) ∧ sp [x, y] H Q E
theorem op_mulI (mi : MulI X.K C) (hm : Meth X.K C (PySem.dunder Operator.Mult.info.2) f) (hs : PySem.W.selfFirst X.K C = true) (F : FnR X.prog X.w X.K X.mg X.base CX n f sp) (hr : Room n X.A) (hx : Passes CX X E) : OpR X (binaryOp .Mult) (rMulI C sp E) := by
  intro pins s σ H x y v u Q I rx ry h
  obtain ⟨a, dx, fs, i, rfl, rfl, ha, q⟩ := h
  cases (show v = Value.ref a from rx)
  obtain ⟨t, rfl⟩ := (show ∃ t, u = Value.int i t from ry)
  obtain ⟨ox, od, J⟩ := ins_inst I ha
  obtain ⟨m, hF⟩ := I.fr
  obtain ⟨rc, h3, h4⟩ := mi.hr
  obtain ⟨fo, h1⟩ := mi.h1
  obtain ⟨ro, h2⟩ := mi.h2
  refine PySem.W.ksp_binT (op := .Mult) (T := "int") hF I.ok.mod.kin J rfl hs hm.at_ hm.fn h3 h4 h1 h2 mi.su ?_
  refine wpAny_mono (wpAny_call (run_fnR (us := [.ref a, .int i t]) (vs := [.ref a, .int i]) F hr hx I (.cons rfl (.cons ⟨t, rfl⟩ .nil)) q)) (fun w s' z => ?_) fun _ _ x => x
  obtain ⟨z', H', I', rz, qz⟩ := z
  exact SlX.cmpback rz ⟨z', H', I', rz, qz⟩
theorem int_mul_ins (a : Int) (t : Tok) (l C dx : Addr) :
    Meets (Builtin.«int.__mul__» ⟨[.int a t, .ref l], []⟩) (fun _ R s => s.heap.get? l = some (PySem.W.instObj C dx) ∧ R (.ok (.ret Value.notImplemented)) s) :=
  .of_wp fun prog w A R s h => by obtain ⟨hp, g, d, tk, os⟩ := s; obtain ⟨hl, h⟩ := h; wp_walk using wpAny_loadPart' hl; exact ⟨_, rfl, h⟩
/-- n * o, n an int -/
def rMulR (C : Addr) (sp : Sp) (E : XK) : R2 := fun x y H Q => ∃ a dx fs i, x = V.int i ∧ y = V.ref a ∧ H a = some (.ins C dx fs) ∧ sp [y, x] H Q E
theorem op_mulR {f0 : Addr} (mi : MulI X.K C) (hm0 : Meth X.K C (PySem.dunder "mul") f0) (hm : Meth X.K C (PySem.dunderR "mul") f) (hs : PySem.W.selfFirst X.K C = true) (F : FnR X.prog X.w X.K X.mg X.base CX n f sp) (hr : Room n X.A) (hx : Passes CX X E) : OpR X (binaryOp .Mult) (rMulR C sp E) := by
  intro pins s σ H x y v u Q I rx ry h
  obtain ⟨a, dx, fs, i, rfl, rfl, ha, q⟩ := h
  cases (show u = Value.ref a from ry)
  obtain ⟨t, rfl⟩ := (show ∃ t, v = Value.int i t from rx)
  obtain ⟨mA, O, _⟩ := ins_get I.hok ha
  obtain ⟨od, J, _⟩ := O.look
  obtain ⟨m, hF⟩ := I.fr
  have XX := I.ok.mod.kin.keeps hF.keep
  obtain ⟨cd, rest, hcd, hmro⟩ := PySem.W.ksp_first hs
  have one := PySem.W.ksp_try (b := .int i t) XX J hm.at_ hm.fn (Q := EP X pins σ Q) (wpAny_mono (wpAny_call (run_fnR (us := [.ref a, .int i t]) (vs := [.ref a, .int i]) F hr hx I (.cons rfl (.cons ⟨t, rfl⟩ .nil)) q)) (fun w s' z => by
    obtain ⟨z', H', I', rz, qz⟩ := z
    exact SlX.cmpback rz ⟨z', H', I', rz, qz⟩) fun _ _ x => x)
  have L1 : PySem.W.Looks (model X.prog X.w) s.heap (typeOf (.int i t)) (.type "int") := PySem.W.Looks.of_pure rfl
  have L2 : PySem.W.Looks (model X.prog X.w) s.heap (typeOf (.ref a)) (.ref C) := J.type
  have L3 : PySem.W.Looks (model X.prog X.w) s.heap (fillsNumberSlot (.type "int") "mul") true := PySem.W.Looks.of_pure PySem.F.fills_int_mul
  have L4 : PySem.W.Looks (model X.prog X.w) s.heap (fillsNumberSlot (.ref C) "mul") true := PySem.W.fills_K XX hcd hmro hm0.at_
  have L5 : PySem.W.Looks (model X.prog X.w) s.heap (isSubtype (.ref C) (.type "int")) false := PySem.W.looks_subIn XX mi.us
  have hne : (Value.type "int" == Value.ref C) = false := Bool.eq_false_iff.mpr fun q => by cases beq_iff_eq.mp q
  show wpAny _ _ (binaryOp .Mult (.int i t) (.ref a)) _ _ _
  unfold binaryOp
  refine wpAny_holding (wpAny_bind ?_)
  show wpAny _ _ (binaryOp1 "mul" (.int i t) (.ref a)) _ _ _
  unfold binaryOp1
  refine wpAny_bind (L1.here (wpAny_bind (L2.here (wpAny_bind (L3.here ?_)))))
  simp only [hne, Bool.false_eq_true, if_false]
  refine wpAny_bind (L4.here ?_)
  simp only [Bool.and_self, if_true, Bool.true_and]
  refine wpAny_bind (L5.here ?_)
  simp only [Bool.false_eq_true, if_false, Bool.not_false, if_true, pure_bind]
  refine wpAny_bind ((show PySem.W.Looks (model X.prog X.w) s.heap (numberSlotInPython (.type "int") "mul") false from PySem.W.Looks.of_pure rfl).here ?_)
  simp only [Bool.false_eq_true, if_false]
  refine wpAny_bind (m := tryMethod (.int i t) _ (.ref a)) (wpAny_tryMethod_declines (T := "int") (show s.TypeIs (.int i t) "int" from rfl) PySem.F.slot_int_mul (call_meets PySem.F.slot_int_mul (show s.TypeIs (.int i t) "int" from rfl) PySem.F.entry_int_mul (PySem.F.args_int_mul_2 _ _) (int_mul_ins i t a C dx) ⟨J.at_, rfl, ?_⟩))
  refine wpAny_bind (m := tryMethod (.ref a) _ (.int i t)) (wpAny_mono one (fun r s' z => ?_) fun _ _ e => e)
  obtain ⟨w, rfl, ep⟩ := z
  exact wpAny_bind (wpAny_rule (wpAny_pure (wpAny_pure ep)))
end
section
variable {l : List Asn} {H : Hp} {Q : VK} {m : Int} {p C : Addr} {g : Str → Int} {sp : Sp} {E : XK} {e : Nat}
theorem mi_co (S : Sep l H) (hi : l[e]? = some (Co p C g)) (k : sp [.ref p, .int m] H Q E) : rMulI C sp E (.ref p) (.int m) H Q := by
  obtain ⟨dx, fs, h1⟩ := ins_co S hi
  exact ⟨p, dx, fs, m, rfl, rfl, h1, k⟩
theorem mr_co (S : Sep l H) (hi : l[e]? = some (Co p C g)) (k : sp [.ref p, .int m] H Q E) : rMulR C sp E (.int m) (.ref p) H Q := by
  obtain ⟨dx, fs, h1⟩ := ins_co S hi
  exact ⟨p, dx, fs, m, rfl, rfl, h1, k⟩
end
local macro_rules | `(tactic| walk_at "v1") => `(tactic| (first
  | ((with_reducible refine' mi_co (by assumption) ?hi ?_); (case hi => walk_at "has"))
  | ((with_reducible refine' mr_co (by assumption) ?hi ?_); (case hi => walk_at "has"))))

/-! dicts by their numbers alone; assertions found in a frame that is not listed -/
local macro_rules | `(tactic| walk_at "hasA") => `(tactic| (first | assumption | ((with_reducible refine' hasS ?h2); (case h2 => walk_at "hasA")) | fail "has"))
local macro_rules | `(tactic| walk_at "has") => `(tactic| (first | walk_at "hasR" | walk_at "hasA" | walk_at "hasD" | fail "has"))
/-- a dict of words and numbers, known by its numbers: at most n entries -/
def Md (d : Addr) (F : Str → Int) (n : Nat) : Asn := Exs fun m : List (Str × Int) => Pk [pure' ((keys m).Nodup ∧ m.length ≤ n ∧ num m = F), At d (.dK (mp m))]
section
variable {l : List Asn} {H : Hp} {d : Addr} {F : Str → Int} {n : Nat} {m : List (Str × Int)} {i : Nat}
theorem md_open (S : Sep (Md d F n :: l) H) : ∃ m, (keys m).Nodup ∧ m.length ≤ n ∧ num m = F ∧ Sep (At d (.dK (mp m)) :: l) H := by
  obtain ⟨m, S⟩ := S.ex
  obtain ⟨⟨h1, h2, h3⟩, S⟩ := (S.open').pure
  exact ⟨m, h1, h2, h3, S⟩
theorem md_close (h1 : (keys m).Nodup) (h2 : m.length ≤ n) (h3 : num m = F) (S : Sep (At d (.dK (mp m)) :: l) H) : Sep (Md d F n :: l) H :=
  Sep.ex' (x := m) (Sep.close' (l := [_, _]) (Sep.pure_in ⟨h1, h2, h3⟩ S))
theorem Sep.md (S : Sep l H) (e : l[i]? = some (Md d F n)) : ∃ m, (keys m).Nodup ∧ m.length ≤ n ∧ num m = F ∧ Sep (At d (.dK (mp m)) :: l.eraseIdx i) H := md_open (S.pick e)
theorem Sep.mdBack (e : l[i]? = some (Md d F n)) (h1 : (keys m).Nodup) (h2 : m.length ≤ n) (h3 : num m = F) (S : Sep (At d (.dK (mp m)) :: l.eraseIdx i) H) : Sep l H := Sep.backS e (md_close h1 h2 h3 S)
/-- what is read of it -/
theorem Sep.mdAt (S : Sep l H) (e : l[i]? = some (Md d F n)) : ∃ m, (keys m).Nodup ∧ m.length ≤ n ∧ num m = F ∧ H d = some (.dK (mp m)) := by
  obtain ⟨m, h1, h2, h3, S⟩ := S.md e
  exact ⟨m, h1, h2, h3, S.at (i := 0) rfl⟩
theorem Md.sz (S : Sep l H) (e : l[i]? = some (Md d F n)) : Sz F n := by
  obtain ⟨m, _, h2, h3, _⟩ := S.mdAt e
  exact Sz.of h3 h2
theorem e_isdM {R : Addr → Prop} (S : Sep l H) (hi : l[i]? = some (Md d F n)) (q : R d) : ∃ a, V.ref d = .ref a ∧ L2.IsD H a ∧ R a := by
  obtain ⟨m, _, _, _, h⟩ := S.mdAt hi
  exact ⟨d, rfl, .inl ⟨mp m, .inl h⟩, q⟩
theorem e_get0M {w : Str} {R : Option V → Prop} (S : Sep l H) (hi : l[i]? = some (Md d F n)) (q : ∀ o : Option V, o.getD (.int 0) = .int (F w) → R o) : ∃ o, DGet H d (.str w) o ∧ R o := by
  obtain ⟨m, _, _, h3, h⟩ := S.mdAt hi
  subst h3
  exact get0_of (.inl h) q
theorem ld_md {Q : VK} (S : Sep l H) (hi : l[i]? = some (Md d F n)) (k : ∀ (p : Addr) (ks : List Str) (H' : Hp), (∀ w, w ∉ ks → F w = 0) → ks.length ≤ n → Sep (At p (.lst (ks.map V.str)) :: l) H' → Q (.ref p) H') : gListD [.ref d] H Q := by
  obtain ⟨m, _, h2, h3, h⟩ := S.mdAt hi
  subst h3
  refine ⟨d, mp m, rfl, .inl h, fun p hp => ?_⟩
  rw [kv_mp]
  exact k p (keys m) _ (fun w hw => num_none hw) (by unfold keys; rw [List.length_map]; exact h2) (S.new hp)
theorem pk_md (h1 : (keys m).Nodup) (h2 : m.length ≤ n) (h3 : num m = F) (S : Sep (At d (.dK (mp m)) :: l) H) : Sep (Md d F n :: l) H := md_close h1 h2 h3 S
end
local macro_rules | `(tactic| walk_at "v1") => `(tactic| (first
  | ((with_reducible refine' ld_md (by assumption) ?hi ?_); (case hi => walk_at "has"); intro _ _ _ _ _ _)
  | ((with_reducible refine' e_isdM (by assumption) ?hi ?_); (case hi => walk_at "has"))
  | ((with_reducible refine' e_get0M (by assumption) ?hi ?_); (case hi => walk_at "has"); (refine fun o ho => ?_); rw [ho]; clear ho)))
/-- m has F of the words ws alone -/
def Mw (F : Str → Int) (ws : List Str) (m : List (Str × Int)) : Prop := (keys m).Nodup ∧ m.length ≤ ws.length ∧ ∀ w, num m w = if w ∈ ws then F w else 0
theorem Mw.nil {F : Str → Int} : Mw F [] [] := ⟨List.nodup_nil, Nat.le_refl _, fun w => by rw [if_neg (fun z => nomatch z)]; rfl⟩
theorem Mw.put {F : Str → Int} {ws : List Str} {m : List (Str × Int)} (h : Mw F ws m) (w : Str) : Mw F (ws ++ [w]) (mput m w (F w)) := by
  refine ⟨nodup_put h.1 _ _, Nat.le_trans (len_put _ _ _) (by rw [List.length_append]; exact Nat.succ_le_succ h.2.1), fun v => ?_⟩
  rw [num_put, h.2.2]
  by_cases e : v = w
  · rw [if_pos e, if_pos (List.mem_append_right _ (List.mem_singleton.2 e)), e]
  · rw [if_neg e]
    by_cases hv : v ∈ ws
    · rw [if_pos hv, if_pos (List.mem_append_left _ hv)]
    · rw [if_neg hv, if_neg fun z => (List.mem_append.1 z).elim hv fun z => e (List.mem_singleton.1 z)]
theorem Mw.all {F : Str → Int} {ws : List Str} {m : List (Str × Int)} (h : Mw F ws m) (k : ∀ w, w ∉ ws → F w = 0) : num m = F := funext fun w => by
  rw [h.2.2]
  by_cases hw : w ∈ ws
  · rw [if_pos hw]
  · rw [if_neg hw, k w hw]
theorem psum_bound {ps : List (Str × Int)} (h : Gp ps) (w : Str) : (psum ps w).natAbs ≤ ps.length * 10 ^ 30 := by
  induction ps with
  | nil => exact Nat.zero_le _
  | cons x ps ih =>
    have ih := ih fun y hy => h y (List.mem_cons_of_mem _ hy)
    have hx := (h x List.mem_cons_self).2
    show ((if x.1 = w then x.2 else 0) + psum ps w).natAbs ≤ (ps.length + 1) * 10 ^ 30
    have h1 : (if x.1 = w then x.2 else 0).natAbs ≤ 10 ^ 30 := by
      split
      · omega
      · exact Nat.zero_le _
    have h2 := Int.natAbs_add_le (if x.1 = w then x.2 else 0) (psum ps w)
    rw [Nat.add_mul, Nat.one_mul]
    omega
theorem psum_big {ps : List (Str × Int)} (h : Gp ps) (hz : ps.length ≤ 1000) (w : Str) : (psum ps w).natAbs < 2 ^ 900 := by
  have h1 := psum_bound h w
  have h2 : ps.length * 10 ^ 30 ≤ 1000 * 10 ^ 30 := Nat.mul_le_mul_right _ hz
  have h3 : 1000 * 10 ^ 30 < 2 ^ 900 := by decide +kernel
  omega
theorem SepF.inv {A : Asn} {l : List Asn} {g : Addr → Prop} {H : Hp} (S : SepF (A :: l) g H) : ∃ f g', A.h f H ∧ SepF l g' H ∧ ∀ a, g a ↔ (f a ∨ g' a) := by
  cases S with
  | cons h S d => exact ⟨_, _, h, S, fun _ => Iff.rfl⟩
theorem co_ne_md {l : List Asn} {H : Hp} {i j : Nat} {p C d : Addr} {g F : Str → Int} {n : Nat} (S : Sep l H) (e : l[i]? = some (Co p C g)) (e2 : l[j]? = some (Md d F n)) : i ≠ j := by
  intro h
  subst h
  have e3 := Option.some.inj (e.symm.trans e2)
  obtain ⟨f, hf⟩ := S.get e
  have hf2 : (Md d F n).h f H := e3 ▸ hf
  obtain ⟨x, hs⟩ := hf
  obtain ⟨f1, g1, _, hs, k1⟩ := SepF.inv (show SepF _ f H from hs)
  obtain ⟨f2, g2, ho, _, k2⟩ := hs.inv
  obtain ⟨dx, ho⟩ := ho
  obtain ⟨f3, g3, hp, _, k3⟩ := SepF.inv (show SepF _ f2 H from ho)
  have hp' : H p = some _ ∧ ∀ a, f3 a ↔ a = p := hp
  have fp : f p := (k1 p).2 (.inr ((k2 p).2 (.inl ((k3 p).2 (.inl ((hp'.2 p).2 rfl))))))
  obtain ⟨m, hm⟩ := hf2
  obtain ⟨f4, g4, hpu, hm, k4⟩ := SepF.inv (show SepF _ f H from hm)
  obtain ⟨f5, g5, hd, hm, k5⟩ := hm.inv
  have hpu' : _ ∧ ∀ a, ¬ f4 a := hpu
  have hd' : H d = some (.dK (mp m)) ∧ ∀ a, f5 a ↔ a = d := hd
  rcases (k4 p).1 fp with z | z
  · exact hpu'.2 p z
  · rcases (k5 p).1 z with z | z
    · have e5 := (hd'.2 p).1 z
      rw [← e5, hp'.1] at hd'
      exact nomatch hd'.1
    · cases hm
      exact z
/-! ### dict(d), C.m(..), lists of texts compared -/
def gDictD (xs : List V) (H : Hp) (Q : VK) : Prop := ∃ (a : Addr) (kvs : List (Key × V)), xs = [.ref a] ∧ Rd H a (.dK kvs) ∧ ∀ p, H p = Option.none → Q (.ref p) (upd H p (.dK kvs))
theorem call_gDictD {X : Cx} : CallR X (.type "dict") gDictD := call_dictD
theorem dd_mp {l : List Asn} {H : Hp} {d : Addr} {m : List (Str × Int)} {e : Nat} {Q : VK} (S : Sep l H) (hi : l[e]? = some (At d (.dK (mp m)))) (k : ∀ p H', Sep (At p (.dK (mp m)) :: l) H' → Q (.ref p) H') : gDictD [.ref d] H Q :=
  ⟨d, mp m, rfl, .inl (S.at hi), fun p hp => k p _ (S.new hp)⟩
local macro_rules | `(tactic| walk_at "v1") => `(tactic| ((with_reducible refine' dd_mp (by assumption) ?hi ?_); (case hi => walk_at "has"); intro _ _ _))
theorem r_cmethC {σ : L2.St} {H : Hp} {C : Addr} {sp : Sp} {E : XK} {t : TA} {Q : VK} (q : t σ H fun vs H2 => sp (.ref C :: vs) H2 Q E) : ClX.tCMeth C sp E (tC (.ref C)) t σ H Q := ⟨rfl, q⟩
local macro_rules | `(tactic| walk_at "v1") => `(tactic| (with_reducible refine r_cmethC ?_))
theorem ne_lss {l : List Asn} {H : Hp} {p p2 : Addr} {K : PySem.W.Frag} {Q : VK} {e e2 : Nat} {ws us : List Str} (S : Sep l H) (hi : l[e]? = some (At p (.lst (ws.map V.str)))) (hj : l[e2]? = some (At p2 (.lst (us.map V.str)))) (h1 : ∀ w ∈ ws, Wd w) (h2 : ∀ w ∈ us, Wd w) (q : Q (.bl (!decide (ws = us))) H) : gNe K (.ref p) (.ref p2) H Q :=
  .inr ⟨.list (dStrs ws), .list (dStrs us), .lst (SqL.of (S.at hi)) (dp_strs ws), .lst (SqL.of (S.at hj)) (dp_strs us), shaped_lst (flat_dstrs h1), shaped_lst (flat_dstrs h2), by rw [PyData.eqv, eqv_dstrs]; exact q⟩
theorem cut_lastV (xs : List V) (v : V) : cutV (xs ++ [v]) none (some (-1)) = xs := by
  unfold cutV
  have e1 : HT.sIx (xs.length + 1) (xs.length + 1) (some (-1)) = xs.length := by
    unfold HT.sIx
    simp
    try omega
  have e0 : HT.sIx (xs.length + 1) 0 none = 0 := rfl
  rw [show (xs ++ [v]).length = xs.length + 1 by simp, e1, e0]
  simp
/-! ### the truth of a bool -/
theorem r_tr {K : PySem.W.Frag} {ta : TE} {σ : L2.St} {H : Hp} {Q : Bool → Hp → Prop} (q : ta σ H fun x H' => ∃ k, TruV K x H' k ∧ Q k H') : tTr K ta σ H Q := q
theorem tr_bl {K : PySem.W.Frag} {H : Hp} {b : Bool} {R : Bool → Prop} (q : R b) : ∃ k, TruV K (.bl b) H k ∧ R k := ⟨b, rfl, q⟩
local macro_rules | `(tactic| walk_at "v1") => `(tactic| (first
  | with_reducible refine r_tr ?_
  | with_reducible refine tr_bl ?_))
/-! ### rows -/
theorem SepF.perm {l l' : List Asn} {H : Hp} (h : l.Perm l') : ∀ {g : Addr → Prop}, SepF l g H → SepF l' g H := by
  induction h with
  | nil => exact fun S => S
  | cons A _ ih =>
    intro g S
    cases S with
    | cons h S d => exact .cons h (ih S) d
  | swap A B l =>
    intro g S
    exact S.pick (i := 1) rfl
  | trans _ _ h1 h2 => exact fun S => h2 (h1 S)
theorem Sep.perm {l l' : List Asn} {H : Hp} (S : Sep l H) (h : l.Perm l') : Sep l' H := S.imp fun _ q => q.perm h
/-- a row: new counts with the numbers F, beside a dict -/
structure Rx where
  q : Addr
  d : Addr
  F : Str → Int
def Rw (C : Addr) (r : Rx) : Asn := Exs fun p : Addr => Pk [Tp r.q [.ref p, .ref r.d], Co p C r.F]
theorem rw_close {C p : Addr} {r : Rx} {l : List Asn} {H : Hp} (S : Sep (Tp r.q [.ref p, .ref r.d] :: Co p C r.F :: l) H) : Sep (Rw C r :: l) H := Sep.ex' (x := p) (Sep.close' (l := [_, _]) S)
theorem rw_open {C : Addr} {r : Rx} {l : List Asn} {H : Hp} (S : Sep (Rw C r :: l) H) : ∃ p, Sep (Tp r.q [.ref p, .ref r.d] :: Co p C r.F :: l) H := by
  obtain ⟨p, S⟩ := S.ex
  exact ⟨p, S.open'⟩
/-- the rows rs in a list at L; their dicts are in fr -/
def Rows (C L : Addr) (rs : List Rx) (fr : List Asn) (H : Hp) : Prop := rs.length ≤ 60 ∧ (∀ r ∈ rs, ∃ (t n : Nat), n < 64 ∧ fr[t]? = some (Md r.d r.F n)) ∧ Sep (At L (.lst (rs.map fun r => V.ref r.q)) :: (rs.map (Rw C) ++ fr)) H
theorem Rows.add {C L : Addr} {rs news : List Rx} {ms fr : List Asn} {H : Hp} (hz : (rs ++ news).length ≤ 60) (h0 : ∀ r ∈ rs, ∃ (t n : Nat), n < 64 ∧ fr[t]? = some (Md r.d r.F n)) (h1 : ∀ r ∈ news, ∃ (t n : Nat), n < 64 ∧ (ms ++ fr)[t]? = some (Md r.d r.F n))
    (S : Sep (At L (.lst (rs.map (fun r => V.ref r.q) ++ news.map fun r => V.ref r.q)) :: (news.map (Rw C) ++ (ms ++ (rs.map (Rw C) ++ fr)))) H) : Rows C L (rs ++ news) (ms ++ fr) H := by
  refine ⟨hz, fun r hr => ?_, ?_⟩
  · rcases List.mem_append.1 hr with hr | hr
    · obtain ⟨t, n, hn, e⟩ := h0 r hr
      exact ⟨ms.length + t, n, hn, by rw [List.getElem?_append_right (by omega), Nat.add_sub_cancel_left]; exact e⟩
    · exact h1 r hr
  · rw [← List.map_append] at S
    refine S.perm (List.Perm.cons _ ?_)
    rw [List.map_append, List.append_assoc]
    have e1 : (List.map (Rw C) news ++ (ms ++ (List.map (Rw C) rs ++ fr))).Perm (List.map (Rw C) news ++ (List.map (Rw C) rs ++ (ms ++ fr))) :=
      List.Perm.append_left _ (by rw [← List.append_assoc, ← List.append_assoc]; exact List.Perm.append_right _ List.perm_append_comm)
    refine e1.trans ?_
    rw [← List.append_assoc, ← List.append_assoc (List.map (Rw C) rs)]
    exact List.Perm.append_right _ List.perm_append_comm
theorem app_get {l fr : List Asn} {i : Nat} {A : Asn} (h : fr[i]? = some A) : (l ++ fr)[l.length + i]? = some A := by
  rw [List.getElem?_append_right (by omega), Nat.add_sub_cancel_left]; exact h
theorem packs {C : Addr} {H : Hp} : ∀ (ps : List (Addr × Rx)) (X : Asn) (l : List Asn), Sep ((ps.flatMap fun x => [Tp x.2.q [.ref x.1, .ref x.2.d], Co x.1 C x.2.F]) ++ X :: l) H → Sep (X :: ((ps.map fun x => Rw C x.2) ++ l)) H
  | [], _, _, S => S
  | x :: ps, X, l, S => by
    have S1 : Sep (Rw C x.2 :: ((ps.flatMap fun x => [Tp x.2.q [.ref x.1, .ref x.2.d], Co x.1 C x.2.F]) ++ X :: l)) H := rw_close S
    have S2 : Sep ((ps.flatMap fun x => [Tp x.2.q [.ref x.1, .ref x.2.d], Co x.1 C x.2.F]) ++ X :: (Rw C x.2 :: l)) H := S1.perm (by
      refine List.perm_middle.symm.trans (List.Perm.append_left _ (List.Perm.swap _ _ _))
      )
    have S3 := packs ps X (Rw C x.2 :: l) S2
    refine S3.perm (List.Perm.cons _ ?_)
    exact List.perm_middle
theorem Sep.dropAt {l : List Asn} {H : Hp} (S : Sep l H) (i : Nat) : Sep (l.eraseIdx i) H := by
  by_cases h : i < l.length
  · exact (S.pick (List.getElem?_eq_getElem h)).tail
  · rw [List.eraseIdx_of_length_le (by omega)]; exact S
def drops : List Nat → List Asn → List Asn
  | [], l => l
  | i :: is, l => drops is (l.eraseIdx i)
theorem Sep.drops {H : Hp} : ∀ (is : List Nat) {l : List Asn}, Sep l H → Sep (Y.drops is l) H
  | [], _, S => S
  | i :: is, _, S => Sep.drops is (S.dropAt i)
/-! ### rows with a dict each -/
def Rv (C : Addr) (r : Rx) : Asn := Exs fun p : Addr => Pk [Tp r.q [.ref p, .ref r.d], Co p C r.F, Md r.d r.F 30]
theorem rv_close {C p : Addr} {r : Rx} {l : List Asn} {H : Hp} (S : Sep (Tp r.q [.ref p, .ref r.d] :: Co p C r.F :: Md r.d r.F 30 :: l) H) : Sep (Rv C r :: l) H := Sep.ex' (x := p) (Sep.close' (l := [_, _, _]) S)
theorem rv_open {C : Addr} {r : Rx} {l : List Asn} {H : Hp} (S : Sep (Rv C r :: l) H) : ∃ p, Sep (Tp r.q [.ref p, .ref r.d] :: Co p C r.F :: Md r.d r.F 30 :: l) H := by
  obtain ⟨p, S⟩ := S.ex
  exact ⟨p, S.open'⟩
theorem packv {C : Addr} {H : Hp} : ∀ (ps : List (Addr × Rx)) (X : Asn) (l : List Asn), Sep ((ps.flatMap fun x => [Tp x.2.q [.ref x.1, .ref x.2.d], Co x.1 C x.2.F, Md x.2.d x.2.F 30]) ++ X :: l) H → Sep (X :: ((ps.map fun x => Rv C x.2) ++ l)) H
  | [], _, _, S => S
  | x :: ps, X, l, S => by
    have S1 : Sep (Rv C x.2 :: ((ps.flatMap fun x => [Tp x.2.q [.ref x.1, .ref x.2.d], Co x.1 C x.2.F, Md x.2.d x.2.F 30]) ++ X :: l)) H := rv_close S
    have S2 : Sep ((ps.flatMap fun x => [Tp x.2.q [.ref x.1, .ref x.2.d], Co x.1 C x.2.F, Md x.2.d x.2.F 30]) ++ X :: (Rv C x.2 :: l)) H := S1.perm (List.perm_middle.symm.trans (List.Perm.append_left _ (List.Perm.swap _ _ _)))
    exact (packv ps X (Rv C x.2 :: l) S2).perm (List.Perm.cons _ List.perm_middle)
/-- the rows rs in a list at L -/
def Rovs (C L : Addr) (rs : List Rx) (fr : List Asn) (H : Hp) : Prop := Sep (At L (.lst (rs.map fun r => V.ref r.q)) :: (rs.map (Rv C) ++ fr)) H
theorem Rovs.add {C L : Addr} {rs news : List Rx} {fr : List Asn} {H : Hp} (S : Sep (At L (.lst (rs.map (fun r => V.ref r.q) ++ news.map fun r => V.ref r.q)) :: (news.map (Rv C) ++ (rs.map (Rv C) ++ fr))) H) : Rovs C L (rs ++ news) fr H := by
  unfold Rovs
  rw [← List.map_append] at S
  refine S.perm (List.Perm.cons _ ?_)
  rw [List.map_append, ← List.append_assoc]
  exact List.Perm.append_right _ List.perm_append_comm

/-! dicts by their numbers, their keys among given words -/
def Mq (d : Addr) (F : Str → Int) (ws : List Str) : Asn := Exs fun m : List (Str × Int) => Pk [pure' ((keys m).Nodup ∧ (∀ w ∈ keys m, w ∈ ws) ∧ num m = F), At d (.dK (mp m))]
/-- all numbers are of these words -/
def On (F : Str → Int) (ws : List Str) : Prop := ∀ w, w ∉ ws → F w = 0
theorem On.sz {F : Str → Int} {ws : List Str} {n : Nat} (h : On F ws) (k : ws.length ≤ n) : Sz F n := ⟨ws, k, fun w z => Classical.byContradiction fun y => z (h w y)⟩
theorem On.map {F G : Str → Int} {ws : List Str} (h : On F ws) (k : ∀ w, F w = 0 → G w = 0) : On G ws := fun w z => k w (h w z)
theorem On.two {F G J : Str → Int} {ws : List Str} (h : On F ws) (h2 : On G ws) (k : ∀ w, F w = 0 → G w = 0 → J w = 0) : On J ws := fun w z => k w (h w z) (h2 w z)
theorem On.put {F : Str → Int} {ws : List Str} (h : On F ws) (v : Str) (x : Int) : On (fun w => if w = v then x else F w) (v :: ws) := fun w z => by
  show (if w = v then x else F w) = 0
  rw [if_neg (fun e => z (by rw [e]; exact List.mem_cons_self))]
  exact h w fun y => z (List.mem_cons_of_mem _ y)
theorem On.sub {F : Str → Int} {ws us : List Str} (h : On F ws) (k : ∀ w ∈ ws, w ∈ us) : On F us := fun w z => h w fun y => z (k w y)
theorem on_psum (ps : List (Str × Int)) : On (psum ps) (keys ps) := fun w h => by
  induction ps with
  | nil => rfl
  | cons x ps ih =>
    show (if x.1 = w then x.2 else 0) + psum ps w = 0
    rw [if_neg (fun e => h (by rw [← e]; exact List.mem_cons_self)), ih fun z => h (List.mem_cons_of_mem _ z)]; rfl
section
variable {l : List Asn} {H : Hp} {d : Addr} {F : Str → Int} {ws us : List Str} {m : List (Str × Int)} {i : Nat} {n : Nat}
theorem mq_open (S : Sep (Mq d F ws :: l) H) : ∃ m, (keys m).Nodup ∧ (∀ w ∈ keys m, w ∈ ws) ∧ num m = F ∧ Sep (At d (.dK (mp m)) :: l) H := by
  obtain ⟨m, S⟩ := S.ex
  obtain ⟨⟨h1, h2, h3⟩, S⟩ := (S.open').pure
  exact ⟨m, h1, h2, h3, S⟩
theorem mq_close (h1 : (keys m).Nodup) (h2 : ∀ w ∈ keys m, w ∈ ws) (h3 : num m = F) (S : Sep (At d (.dK (mp m)) :: l) H) : Sep (Mq d F ws :: l) H :=
  Sep.ex' (x := m) (Sep.close' (l := [_, _]) (Sep.pure_in ⟨h1, h2, h3⟩ S))
theorem Sep.mq (S : Sep l H) (e : l[i]? = some (Mq d F ws)) : ∃ m, (keys m).Nodup ∧ (∀ w ∈ keys m, w ∈ ws) ∧ num m = F ∧ Sep (At d (.dK (mp m)) :: l.eraseIdx i) H := mq_open (S.pick e)
theorem Sep.mqBack (e : l[i]? = some (Mq d F ws)) (h1 : (keys m).Nodup) (h2 : ∀ w ∈ keys m, w ∈ ws) (h3 : num m = F) (S : Sep (At d (.dK (mp m)) :: l.eraseIdx i) H) : Sep l H := Sep.backS e (mq_close h1 h2 h3 S)
theorem Sep.mqAt (S : Sep l H) (e : l[i]? = some (Mq d F ws)) : ∃ m, (keys m).Nodup ∧ (∀ w ∈ keys m, w ∈ ws) ∧ num m = F ∧ H d = some (.dK (mp m)) := by
  obtain ⟨m, h1, h2, h3, S⟩ := S.mq e
  exact ⟨m, h1, h2, h3, S.at (i := 0) rfl⟩
theorem keys_le (h1 : (keys m).Nodup) (h2 : ∀ w ∈ keys m, w ∈ ws) : m.length ≤ ws.length := by
  have := len_sub h1 h2
  unfold keys at this
  rwa [List.length_map] at this
theorem Mq.on (S : Sep l H) (e : l[i]? = some (Mq d F ws)) : On F ws := by
  obtain ⟨m, _, h2, h3, _⟩ := S.mqAt e
  subst h3
  exact fun w hw => num_none fun z => hw (h2 w z)
theorem mq_sub (k : ∀ w ∈ ws, w ∈ us) (S : Sep (Mq d F ws :: l) H) : Sep (Mq d F us :: l) H := by
  obtain ⟨m, h1, h2, h3, S⟩ := mq_open S
  exact mq_close h1 (fun w hw => k w (h2 w hw)) h3 S
theorem e_isdQ {R : Addr → Prop} (S : Sep l H) (hi : l[i]? = some (Mq d F ws)) (q : R d) : ∃ a, V.ref d = .ref a ∧ L2.IsD H a ∧ R a := by
  obtain ⟨m, _, _, _, h⟩ := S.mqAt hi
  exact ⟨d, rfl, .inl ⟨mp m, .inl h⟩, q⟩
theorem e_get0Q {w : Str} {R : Option V → Prop} (S : Sep l H) (hi : l[i]? = some (Mq d F ws)) (q : ∀ o : Option V, o.getD (.int 0) = .int (F w) → R o) : ∃ o, DGet H d (.str w) o ∧ R o := by
  obtain ⟨m, _, _, h3, h⟩ := S.mqAt hi
  subst h3
  exact get0_of (.inl h) q
theorem ld_mq {Q : VK} (S : Sep l H) (hi : l[i]? = some (Mq d F ws)) (k : ∀ (p : Addr) (ks : List Str) (H' : Hp), On F ks → (∀ w ∈ ks, w ∈ ws) → ks.Nodup → Sep (At p (.lst (ks.map V.str)) :: l) H' → Q (.ref p) H') : gListD [.ref d] H Q := by
  obtain ⟨m, h1, h2, h3, h⟩ := S.mqAt hi
  subst h3
  refine ⟨d, mp m, rfl, .inl h, fun p hp => ?_⟩
  rw [kv_mp]
  exact k p (keys m) _ (fun w hw => num_none hw) h2 h1 (S.new hp)
theorem c_lenQ {K : PySem.W.Frag} {Q : VK} (S : Sep l H) (hi : l[i]? = some (Mq d F ws)) (k : ∀ n : Nat, n ≤ ws.length → Q (.int (n : Nat)) H) : gLen K [.ref d] H Q := by
  obtain ⟨m, h1, h2, h3, h⟩ := S.mqAt hi
  refine .inr ⟨d, mp m, rfl, h, ?_⟩
  have := k m.length (keys_le h1 h2)
  rwa [← List.length_map (f := fun x : Str × Int => ((Sum.inr x.1 : Key), V.int x.2))] at this
end
local macro_rules | `(tactic| walk_at "v1") => `(tactic| (first
  | ((with_reducible refine' ld_mq (by assumption) ?hi ?_); (case hi => walk_at "has"); intro _ _ _ _ _ _ _)
  | ((with_reducible refine' e_isdQ (by assumption) ?hi ?_); (case hi => walk_at "has"))
  | ((with_reducible refine' e_get0Q (by assumption) ?hi ?_); (case hi => walk_at "has"); (refine fun o ho => ?_); rw [ho]; clear ho)))
/-- words taken from both, put one by one -/
theorem keys_put_in {m : List (Str × Int)} {w : Str} {n : Int} {ws : List Str} (h : ∀ v ∈ keys m, v ∈ ws) (hw : w ∈ ws) : ∀ v ∈ keys (mput m w n), v ∈ ws := fun v hv => (mem_put hv).elim (fun e => e ▸ hw) (h v)
/-! a, b = x, y -/
section
variable {σ : L2.St} {H : Hp} {ta : TA} {i j : Nat} {nx bk ct : L2.St → Hp → Prop} {rt : VK} {a b c : V} {R : V → V → Prop}
theorem r_par (q : ta σ H fun vs H1 => ∃ v w, vs = [v, w] ∧ nx ((σ.set i (some v)).set j (some w)) H1) : tPar i j ta ⟨nx, rt, bk, ct⟩ σ H := q
theorem e_par (q : R a b) : ∃ v w, [a, b] = [v, w] ∧ R v w := ⟨a, b, rfl, q⟩
end
local macro_rules | `(tactic| walk_at "v1") => `(tactic| (first
  | with_reducible refine r_par ?_
  | with_reducible refine r_aug rfl ?_
  | with_reducible refine e_par ?_))
/-! ### places by a number, one assertion for another, all of them weaker -/
theorem ixN_in {k : Nat} {n : Int} (h0 : 0 ≤ n) (h1 : n < k) : ixN k n = some n.toNat := by
  unfold ixN
  rw [if_pos h0, if_pos h1]
inductive Weak (H : Hp) : List Asn → List Asn → Prop
  | nil : Weak H [] []
  | cons {A B : Asn} {l l' : List Asn} : (∀ f, A.h f H → B.h f H) → Weak H l l' → Weak H (A :: l) (B :: l')
section
variable {l l' : List Asn} {H : Hp} {A B : Asn} {i : Nat} {p : Addr} {xs : List V} {v : V} {n : Int}
theorem w_lstI {e : Nat} {R : Hp → Prop} (S : Sep l H) (hi : l[e]? = some (At p (.lst xs))) (h0 : 0 ≤ n) (h1 : n < xs.length) (k : ∀ H', Sep (l.set e (At p (.lst (xs.set n.toNat v)))) H' → R H') : rSetL (.ref p) (.int n) v H R :=
  w_lst S hi (ixN_in h0 h1) k
theorem Sep.swapIn (S : Sep (B :: l) H) (e : l[i]? = some A) : Sep (l.set i B) H := Sep.back e (S.pick (i := i + 1) (l := B :: l) e).tail
theorem SepF.imp (h : Weak H l l') : ∀ {g : Addr → Prop}, SepF l g H → SepF l' g H := by
  induction h with
  | nil => exact fun S => S
  | cons h _ ih =>
    intro g S
    cases S with
    | cons a S d => exact .cons (h _ a) (ih S) d
theorem Sep.imp (h : Weak H l l') (S : Sep l H) : Sep l' H := by
  obtain ⟨g, S⟩ := S
  exact ⟨g, S.imp h⟩
theorem all2_refl : ∀ (l : List Asn), Weak H l l
  | [] => .nil
  | _ :: l => .cons (fun _ h => h) (all2_refl l)
theorem all2_app {a b c d : List Asn} (h1 : Weak H a b) (h2 : Weak H c d) : Weak H (a ++ c) (b ++ d) := by
  induction h1 with
  | nil => exact h2
  | cons h _ ih => exact .cons h ih
theorem all2_map {α : Type} {f g : α → Asn} (h : ∀ x u, (f x).h u H → (g x).h u H) : ∀ (xs : List α), Weak H (xs.map f) (xs.map g)
  | [] => .nil
  | x :: xs => .cons (h x) (all2_map h xs)
theorem mq_weak {d : Addr} {F : Str → Int} {ws us : List Str} (k : ∀ w ∈ ws, w ∈ us) {f : Addr → Prop} (h : (Mq d F ws).h f H) : (Mq d F us).h f H := by
  obtain ⟨m, h⟩ := h
  have h : SepF [pure' ((keys m).Nodup ∧ (∀ w ∈ keys m, w ∈ ws) ∧ num m = F), At d (.dK (mp m))] f H := h
  cases h with
  | @cons _ _ f1 g1 _ a S dd => exact ⟨m, SepF.cons (A := pure' ((keys m).Nodup ∧ (∀ w ∈ keys m, w ∈ us) ∧ num m = F)) ⟨⟨a.1.1, fun w hw => k w (a.1.2.1 w hw), a.1.2.2⟩, a.2⟩ S dd⟩
theorem e_putQ {d : Addr} {F : Str → Int} {ws : List Str} {w : Str} {R : Hp → Prop} (S : Sep l H) (hi : l[i]? = some (Mq d F ws)) (hw : w ∈ ws) (hz : ws.length ≤ 1000) (k : ∀ H', Sep (l.set i (Mq d (fun v => if v = w then n else F v) ws)) H' → R H') : ∃ a H4, V.ref d = .ref a ∧ DPut H a (.str w) (.int n) H4 ∧ R H4 := by
  obtain ⟨m, h1, h2, h3, S1⟩ := S.mq hi
  subst h3
  have h4 := keys_le h1 h2
  refine e_putI S1 (e := 0) rfl h1 (by omega) fun H' S' => k H' (Sep.back hi (mq_close (nodup_put h1 w n) (keys_put_in h2 hw) (funext fun v => num_put m w n v) S'))
theorem dd_mq {d : Addr} {F : Str → Int} {ws : List Str} {Q : VK} (S : Sep l H) (hi : l[i]? = some (Mq d F ws)) (k : ∀ p H', Sep (Mq p F ws :: l) H' → Q (.ref p) H') : gDictD [.ref d] H Q := by
  obtain ⟨m, h1, h2, h3, h⟩ := S.mqAt hi
  exact ⟨d, mp m, rfl, .inl h, fun p hp => k p _ (mq_close h1 h2 h3 (S.new hp))⟩
end

/-! own == and != beside a value of another class; repr by an own __repr__ -/
section
open PyProof.Rows
section
variable {X : Cx} {CX : CXT} {n : Nat} {f C : Addr} {sp : Sp} {E : XK} {K : PySem.W.Frag}
def rCmpX (K : PySem.W.Frag) (C : Addr) (sp : Sp) (E : XK) : R2 := fun x y H Q => ∃ a dx fs t, x = V.ref a ∧ H a = some (.ins C dx fs) ∧ TyX K H y t ∧ PySem.W.notFirst K C t = true ∧ sp [x, y] H Q E
theorem op_ownCmpX {op : CmpOp} (hK : X.K = K) (hop : ∀ a b, compareOp op a b = richCompare op a b) (hm : Meth X.K C (cmpInfo op).2.1 f) (F : FnR X.prog X.w X.K X.mg X.base CX n f sp) (hr : Room n X.A) (hx : Passes CX X E) : OpR X (compareOp op) (rCmpX K C sp E) := by
  intro pins s σ H x y v u Q I rx ry h
  subst hK
  obtain ⟨a, dx, fs, t, rfl, ha, ht, hs, q⟩ := h
  cases (show v = Value.ref a from rx)
  obtain ⟨ox, od, J⟩ := ins_inst I ha
  obtain ⟨m, hF⟩ := I.fr
  obtain ⟨P, KX, hP, _⟩ := kit_of I ry ht
  rw [hop]
  refine PySem.W.cmp_K (op := op) (tb := t) hr.units0 hF I.ok.mod.kin J (KX.ty _ _ (I.ok.mod.kin.keeps hF.keep) hP) hs hm.at_ hm.fn ?_
  refine wpAny_mono (wpAny_call (run_fnR (us := [.ref a, u]) (vs := [.ref a, y]) F hr hx I (.cons rfl (.cons ry .nil)) q)) (fun w s' z => ?_) fun _ _ x => x
  obtain ⟨z', H', I', rz, qz⟩ := z
  exact SlX.cmpback rz ⟨z', H', I', rz, qz⟩
def rNeX (K : PySem.W.Frag) (C : Addr) (sp : Sp) (E : XK) : R2 := fun x y H Q => ∃ a dx fs t, x = V.ref a ∧ H a = some (.ins C dx fs) ∧ TyX K H y t ∧ PySem.W.notFirst K C t = true ∧ sp [x, y] H (fun z H' => ∃ c : Bool, z = .bl c ∧ Q (.bl (!c)) H') E
theorem op_ownNeX (hK : X.K = K) (hne : PySem.W.findIn X.K (.ref C) "__ne__" = some (some (.builtin "object.__ne__"))) (hob : PySem.W.mroIn X.K C (.type "object") = some true) (hm : Meth X.K C (Str.ofString "__eq__") f) (F : FnR X.prog X.w X.K X.mg X.base CX n f sp) (hr : Room (n + 1) X.A) (hu : X.A.units + 64 < cLine) (hx : Passes CX X E) :
    OpR X (compareOp .NotEq) (rNeX K C sp E) := by
  intro pins s σ H x y v u Q I rx ry h
  subst hK
  obtain ⟨a, dx, fs, t, rfl, ha, ht, hs, q⟩ := h
  cases (show v = Value.ref a from rx)
  obtain ⟨ox, od, J⟩ := ins_inst I ha
  obtain ⟨m, hF⟩ := I.fr
  obtain ⟨P, KX, hP, _⟩ := kit_of I ry ht
  have XK := I.ok.mod.kin.keeps hF.keep
  have hb := KX.ty (model X.prog X.w) _ XK hP
  have entry : wpAny (model X.prog X.w) X.A.in1 (Builtin.«object.__ne__» ⟨[.ref a, u], []⟩) (fun r s' => ∃ w, r = .done (.ret w) ∧ (w ≠ .notImplemented ∧ EP X pins σ Q w s')) X.xe s := by
    unfold Builtin.«object.__ne__»
    repeat (first
      | with_reducible refine wpAny_cRoomFor (show X.A.in1.units < cLine by show X.A.units + 1 < cLine; omega) ?_
      | (refine wpAny_bind (m := callSpecialIfBound? (.ref a) (Str.ofString "__eq__") [u]) (PySem.W.ifBound_K XK J hm.at_ hm.fn
          (wpAny_mono (wpAny_call (SlX.run_at (us := [.ref a, u]) (ws := [.ref a, y]) F (show Room n X.A.in1 from Room.in1 hr) I.env0.in1 hx I (.cons rfl (.cons ry .nil)) q)) (fun w s' z => by
            obtain ⟨z', H', I', rz, c, ez, qz⟩ := z
            subst ez
            cases (show w = Value.bool c from rz)
            repeat (first | exact ⟨_, rfl, nofun, .bl (!c), H', I', rfl, qz⟩ | exact wpAny_pure ⟨_, rfl, nofun, .bl (!c), H', I', rfl, qz⟩ | (refine wpAny_bind (m := truthy (.bool _)) (wpAny_truthy_bool ?_)) | wp_step)) fun _ _ e => e)))
      | wp_step)
  have one : wpAny (model X.prog X.w) X.A (tryCompare (.ref a) "__ne__" u) (fun r s' => ∃ w, r = some w ∧ EP X pins σ Q w s') X.xe s := by
    unfold tryCompare
    refine wpAny_bind (ifBound_objNe XK J hne ?_)
    refine wpAny_call (codeAny_call_builtin PySem.F.cmp_object.ne.plain PySem.F.cmpEntry_ne (PySem.W.check_slot PySem.F.cmpKind_ne PySem.F.cmpSplit_ne (J.type.andThen (PySem.W.looks_mroIn XK hob)) (PySem.F.cmpArgs_ne _ _) (wpAny_mono entry (fun r s' z => ?_) fun _ _ e => e)))
    obtain ⟨w, rfl, hw, ep⟩ := z
    cases w <;> first | exact (hw rfl).elim | exact wpAny_pure ⟨_, rfl, ep⟩
  show wpAny _ _ (richCompare .NotEq (.ref a) u) _ _ _
  unfold richCompare
  simp only [oneThing_ref]
  refine wpAny_holding (wpAny_bind (wpAny_cRoomFor (by omega) ?_))
  refine wpAny_bind (J.type.here (wpAny_bind (hb.here ?_)))
  split
  · rename_i q
    have e : PySem.W.subIn X.K t (.ref C) = some false := by
      rcases Bool.or_eq_true_iff.mp hs with e | e
      · rw [beq_iff_eq.mp e] at q; simp at q
      · exact beq_iff_eq.mp e
    refine wpAny_bind ((PySem.W.looks_subIn XK e).here ?_)
    simp only [Bool.false_eq_true, if_false]
    refine wpAny_bind (m := tryCompare (.ref a) _ u) (wpAny_mono one (fun r s' z => ?_) fun _ _ e => e)
    obtain ⟨w, rfl, ep⟩ := z
    exact wpAny_pure ep
  · refine wpAny_bind (wpAny_pure ?_)
    simp only [Bool.false_eq_true, if_false]
    refine wpAny_bind (m := tryCompare (.ref a) _ u) (wpAny_mono one (fun r s' z => ?_) fun _ _ e => e)
    obtain ⟨w, rfl, ep⟩ := z
    exact wpAny_pure ep
/-- repr(o) by an own __repr__ -/
def rReprOwn (C : Addr) (sp : Sp) (E : XK) : List V → Hp → VK → Prop := fun xs H Q => ∃ a dx fs, xs = [V.ref a] ∧ H a = some (.ins C dx fs) ∧ sp [V.ref a] H (fun z H' => ∃ y : Str, z = .str y ∧ Q z H') E
theorem call_ownRepr (hm : Meth X.K C (Str.ofString "__repr__") f) (F : FnR X.prog X.w X.K X.mg X.base CX n f sp) (hr : Room (n + 1) X.A) (hx : Passes CX X E) : CallR X (.builtin "repr") (rReprOwn C sp E) := by
  intro pins s σ H xs us Q I r h
  obtain ⟨a, dx, fs, rfl, ha, q⟩ := h
  obtain ⟨u, rfl, ru⟩ := r.one
  cases (show u = Value.ref a from ru)
  obtain ⟨ox, od, J⟩ := ins_inst I ha
  obtain ⟨m, hF⟩ := I.fr
  refine PySem.W.repr_K (show Room n X.A.in1 from Room.in1 hr).units0 hF I.ok.mod.kin J hm.at_ hm.fn ?_
  refine wpAny_mono (wpAny_call (SlX.run_at (us := [.ref a]) (ws := [.ref a]) F (show Room n X.A.in1 from Room.in1 hr) I.env0.in1 hx I (.cons rfl .nil) q)) (fun w s' z => ?_) fun _ _ x => x
  obtain ⟨z', H', I', rz, y, ez, qz⟩ := z
  subst ez
  obtain ⟨t, e⟩ := (show ∃ t, w = Value.str y t from rz)
  cases e
  exact ⟨.str y, H', I', ⟨_, rfl⟩, qz⟩
end
/-! ### f-strings -/
def gFmt (x : V) (H1 : Hp) (Q : VK) : Prop := (∃ y : Str, x = .str y ∧ y.length ≤ sizeLine ∧ Q (.str y) H1) ∨ ∃ i : Int, x = .int i ∧ i.natAbs.log2 < 1920 ∧ Q (.str (toString i)) H1
section
variable {σ : L2.St} {H : Hp} {te : TE} {ts : List TE} {acc : Str} {Q : VK} {QS : Str → Hp → Prop} {t : TE} {y : Str} {i : Int} {R : Str → Prop}
theorem r_fmt (q : te σ H fun x H1 => gFmt x H1 Q) : tFmt te σ H Q := q
theorem fmt_s (hz : y.length ≤ sizeLine) (q : Q (.str y) H) : gFmt (.str y) H Q := .inl ⟨y, rfl, hz, q⟩
theorem fmt_i (hz : i.natAbs.log2 < 1920) (q : Q (.str (toString i)) H) : gFmt (.int i) H Q := .inr ⟨i, rfl, hz, q⟩
theorem js_nil (q : QS acc H) : tJs [] acc σ H QS := q
theorem js_cons (q : t σ H fun x H1 => ∃ y : Str, x = .str y ∧ (acc ++ y).length ≤ sizeLine ∧ tJs ts (acc ++ y) σ H1 QS) : tJs (t :: ts) acc σ H QS := q
theorem js_put (hz : acc.length + y.length ≤ sizeLine) (q : R y) : ∃ y', V.str y = .str y' ∧ (acc ++ y').length ≤ sizeLine ∧ R y' := ⟨y, rfl, by rw [str_len_app]; exact hz, q⟩
end
/-- how long the text of a number is -/
def It (i : Int) : Str := toString i
/-! ### sep.join(xs) -/
def gJoin (K : PySem.W.Frag) : V → List V → Hp → VK → Prop := fun x xs H Q => ∃ a p, ∃ ys : List Str, x = .str a ∧ xs = [.ref p] ∧ (SqL K H p (ys.map V.str) ∨ SqT K H p (ys.map V.str)) ∧ (ys.map (·.length)).sum + ys.length * a.length ≤ 16777216 ∧ Q (.str (Txt.join a ys)) H
theorem pe_gJoin {X : Cx} {K : PySem.W.Frag} {o e : Expr} {to te : TE} {apos pos : Pos} (hK : X.K = K) (ho : PE X o to) (he : PE X e te) (hs : starEach [e] X.env = [(false, eval e X.env)] := by rfl) (hbase : attributeBase o "join" X.env (eval o X.env) = eval o X.env := by rfl) (hline : (apos.endLine == pos.line) = true := by rfl) :
    PE X (.Call (.Attribute o "join" apos) [e] [] pos) (tM1 (gJoin K) to te) := by
  rw [← hK]
  exact pe_join ho he hs hbase hline
section
variable {σ : L2.St} {H : Hp} {l : List Asn} {to te : TE} {r : V → List V → Hp → VK → Prop} {Q : VK} {K : PySem.W.Frag} {p : Addr} {a : Str} {ys : List Str} {e : Nat} {P : Prop}
theorem r_m1 (q : to σ H fun x H1 => (∃ a, x = .str a) ∧ te σ H1 fun y H2 => r x [y] H2 Q) : tM1 r to te σ H Q := q
theorem r_isstr (q : P) : (∃ b, V.str a = .str b) ∧ P := ⟨⟨a, rfl⟩, q⟩
theorem sum_le : ∀ {xs : List Nat} {B : Nat}, (∀ x ∈ xs, x ≤ B) → xs.sum ≤ xs.length * B
  | [], _, _ => Nat.zero_le _
  | x :: xs, B, h => by
    have h1 := h x List.mem_cons_self
    have h2 := sum_le (xs := xs) (B := B) fun y hy => h y (List.mem_cons_of_mem _ hy)
    rw [List.sum_cons, List.length_cons, Nat.add_mul, Nat.one_mul]
    omega
theorem c_join {B : Nat} (S : Sep l H) (hi : l[e]? = some (At p (.lst (ys.map V.str)))) (hB : ∀ y ∈ ys, y.length ≤ B) (hz : ys.length * B + ys.length * a.length ≤ 16777216) (q : Q (.str (Txt.join a ys)) H) : gJoin K (.str a) [.ref p] H Q :=
  ⟨a, p, ys, rfl, rfl, .inl (SqL.of (S.at hi)), by
    have := sum_le (xs := ys.map (·.length)) (B := B) fun x hx => by
      obtain ⟨y, hy, e⟩ := List.mem_map.1 hx
      rw [← e]; exact hB y hy
    rw [List.length_map] at this
    omega, q⟩
theorem c_joinT {B : Nat} (S : Sep l H) (hi : l[e]? = some (Tp p (ys.map V.str))) (hB : ∀ y ∈ ys, y.length ≤ B) (hz : ys.length * B + ys.length * a.length ≤ 16777216) (q : Q (.str (Txt.join a ys)) H) : gJoin K (.str a) [.ref p] H Q :=
  ⟨a, p, ys, rfl, rfl, .inr (SqT.of (S.tp hi)), by
    have := sum_le (xs := ys.map (·.length)) (B := B) fun x hx => by
      obtain ⟨y, hy, e⟩ := List.mem_map.1 hx
      rw [← e]; exact hB y hy
    rw [List.length_map] at this
    omega, q⟩
end
theorem join_len {a : Str} {B : Nat} : ∀ {ys : List Str}, (∀ y ∈ ys, y.length ≤ B) → (Txt.join a ys).length ≤ ys.length * (B + a.length)
  | [], _ => Nat.zero_le _
  | [y], h => by
    have := h y List.mem_cons_self
    show y.length ≤ 1 * (B + a.length)
    omega
  | y :: z :: ys, h => by
    have h1 := h y List.mem_cons_self
    have h2 := join_len (a := a) (B := B) (ys := z :: ys) fun x hx => h x (List.mem_cons_of_mem _ hx)
    have e : Txt.join a (y :: z :: ys) = y ++ a ++ Txt.join a (z :: ys) := by
      rw [TL.join_eq, TL.join_eq]; rfl
    rw [e, str_len_app, str_len_app, List.length_cons, Nat.add_mul, Nat.one_mul]
    omega
theorem int_len {i : Int} {k : Nat} (hk : 0 < k) (h : i.natAbs < 2 ^ k) : (Str.ofString (toString i)).length ≤ k + 1 := by
  rw [PySem.ofString_length]
  exact int_text_length_le hk (PySem.Flt.log2_lt_of hk h)
end
local macro_rules | `(tactic| walk_at "v1") => `(tactic| (first
  | with_reducible refine r_fmt ?_
  | with_reducible refine js_nil ?_
  | with_reducible refine js_cons ?_
  | with_reducible refine r_m1 ?_
  | with_reducible refine r_isstr ?_))
section
variable {l : List Asn} {H : Hp} {K : PySem.W.Frag} {C p : Addr} {g : Str → Int} {e : Nat} {y : V} {t : Value} {sp : Sp} {E : XK} {Q : VK}
theorem x_co (S : Sep l H) (hi : l[e]? = some (Co p C g)) (ht : TyX K H y t) (hn : PySem.W.notFirst K C t = true) (k : sp [.ref p, y] H Q E) : rCmpX K C sp E (.ref p) y H Q := by
  obtain ⟨dx, fs, h⟩ := ins_co S hi
  exact ⟨p, dx, fs, t, rfl, h, ht, hn, k⟩
theorem x_coNe (S : Sep l H) (hi : l[e]? = some (Co p C g)) (ht : TyX K H y t) (hn : PySem.W.notFirst K C t = true) (k : sp [.ref p, y] H (fun z H' => ∃ c : Bool, z = .bl c ∧ Q (.bl (!c)) H') E) : rNeX K C sp E (.ref p) y H Q := by
  obtain ⟨dx, fs, h⟩ := ins_co S hi
  exact ⟨p, dx, fs, t, rfl, h, ht, hn, k⟩
theorem rp_co (S : Sep l H) (hi : l[e]? = some (Co p C g)) (k : sp [.ref p] H (fun z H' => ∃ y : Str, z = .str y ∧ Q z H') E) : rReprOwn C sp E [.ref p] H Q := by
  obtain ⟨dx, fs, h⟩ := ins_co S hi
  exact ⟨p, dx, fs, rfl, h, k⟩
end
/-- truth of a word about anything -/
noncomputable def dP (P : Prop) : Bool := @decide P (Classical.propDecidable P)
theorem dP_iff {P : Prop} : dP P = true ↔ P := by
  unfold dP
  exact @decide_eq_true_iff P (Classical.propDecidable P)
theorem dP_of {P : Prop} {b : Bool} (h : b = true ↔ P) : b = dP P := by
  cases b with
  | true => exact (dP_iff.2 (h.1 rfl)).symm
  | false =>
    cases e : dP P with
    | false => rfl
    | true => exact h.2 (dP_iff.1 e)

/-! rules: what is read of them, their methods -/
section
open PyProof.Rows
theorem PE.or {X : Cx} {e : Expr} {t u : TE} (h : PE X e t) (k : PE X e u) : PE X e (fun σ H Q => t σ H Q ∨ u σ H Q) :=
  ⟨fun pins s σ H Q I q => q.elim (h.run pins s σ H Q I) (k.run pins s σ H Q I)⟩
theorem lkN3 {f : Str} {a b c : V} (h1 : (f == ("least" : Str)) = false) (h2 : (f == ("most" : Str)) = false) (h3 : (f == ("kinds" : Str)) = false) : List.lookup f [(("least" : Str), a), (("most" : Str), b), (("kinds" : Str), c)] = none := by
  show (match f == ("least" : Str) with | true => some a | false => (match f == ("most" : Str) with | true => some b | false => (match f == ("kinds" : Str) with | true => some c | false => none))) = none
  rw [h1, h2, h3]
section
variable {l : List Asn} {H : Hp} {p C : Addr} {a b : V} {ks : List V} {e : Nat} {K : PySem.W.Frag} {Q : VK} {f : Str} {R : Prop}
theorem ru_at (S : Sep l H) (hi : l[e]? = some (Ru p C a b ks)) : ∃ dx t, H p = some (.ins C dx [("least", a), ("most", b), ("kinds", .ref t)]) ∧ H t = some (.tup ks) := by
  obtain ⟨t, S1⟩ := ru_open (S.pick hi)
  obtain ⟨dx, h⟩ := ob_at S1 (e := 0) rfl
  exact ⟨dx, t, h, S1.tp (i := 1) rfl⟩
theorem f_ruL (S : Sep l H) (hi : l[e]? = some (Ru p C a b ks)) (hC : Kl K C rNs) (q : Q a H) : gFldR K "least" (.ref p) H Q := by
  obtain ⟨dx, t, h, _⟩ := ru_at S hi
  exact ⟨p, C, dx, _, a, rfl, h, hC.c, hC.n "least" (by decide), lk0, q⟩
theorem f_ruM (S : Sep l H) (hi : l[e]? = some (Ru p C a b ks)) (hC : Kl K C rNs) (q : Q b H) : gFldR K "most" (.ref p) H Q := by
  obtain ⟨dx, t, h, _⟩ := ru_at S hi
  exact ⟨p, C, dx, _, b, rfl, h, hC.c, hC.n "most" (by decide), lkS (by decide +kernel) lk0, q⟩
theorem f_ruK (S : Sep l H) (hi : l[e]? = some (Ru p C a b ks)) (hC : Kl K C rNs) (k : ∀ t, Sep (Tp t ks :: l) H → Q (.ref t) H) : gFldR K "kinds" (.ref p) H Q := by
  obtain ⟨dx, t, h, ht⟩ := ru_at S hi
  exact ⟨p, C, dx, _, _, rfl, h, hC.c, hC.n "kinds" (by decide), lkS (by decide +kernel) (lkS (by decide +kernel) lk0), k t (S.addT ht)⟩
theorem m_ru (S : Sep l H) (hi : l[e]? = some (Ru p C a b ks)) (h1 : (f == ("least" : Str)) = false) (h2 : (f == ("most" : Str)) = false) (h3 : (f == ("kinds" : Str)) = false) (q : R) : gM C f (.ref p) H R := by
  obtain ⟨dx, t, h, _⟩ := ru_at S hi
  exact ⟨p, dx, _, rfl, h, lkN3 h1 h2 h3, q⟩
theorem i_ru {D : Addr} {c : Bool} (S : Sep l H) (hi : l[e]? = some (Ru p C a b ks)) (hC : Kl K C rNs) (ki : Ki K C) (hk : PySem.W.kitOne K (.ref C) (.ref D) = some c) (q : Q (.bl c) H) : gIsi K [.ref p, .ref D] H Q := by
  obtain ⟨dx, t, h, _⟩ := ru_at S hi
  exact i_one (.own D) (.base (.ins h hC.c ki.ha ki.hn ki.ht ki.hm)) hk q
end
end
local macro_rules | `(tactic| walk_at "v1") => `(tactic| (first
  | ((with_reducible refine' f_ruL (by assumption) ?hi ?hC ?_); (case hi => walk_at "has"); (case hC => assumption))
  | ((with_reducible refine' f_ruM (by assumption) ?hi ?hC ?_); (case hi => walk_at "has"); (case hC => assumption))
  | ((with_reducible refine' f_ruK (by assumption) ?hi ?hC ?_); (case hi => walk_at "has"); (case hC => assumption); intro _ _)
  | ((with_reducible refine' m_ru (by assumption) ?hi ?h1 ?h2 ?h3 ?_); (case hi => walk_at "has"); (case h1 => decide +kernel); (case h2 => decide +kernel); (case h3 => decide +kernel))))
/-! [e for x in t], t a tuple -/
section
variable {σ : L2.St} {H : Hp} {K : PySem.W.Frag} {g : TG} {te ta : TE} {tt : TT} {vs : List Nat} {Q : VK} {l : List Asn} {p : Addr} {xs : List V}
theorem lcT {e : Nat} (S : Sep l H) (hi : l[e]? = some (Tp p xs)) (Pv : Addr → Nat → Hp → Prop) (h0 : ∀ D H', Sep (At D (.lst []) :: l) H' → Pv D 0 H') (hl : ∀ D i H, Pv D i H → H p = some (.tup xs))
    (hs : ∀ D i x H, xs[i]? = some x → Pv D i H → LcT g tt ta vs σ x D (Pv D (i + 1)) H) (hd : ∀ D H, Pv D xs.length H → Q (.ref D) H) : ∃ a, V.ref p = .ref a ∧ (∃ xs, SqT K H a xs) ∧ LcB (Itt K a) g tt ta vs σ H Q :=
  ⟨p, rfl, ⟨xs, SqT.of (S.tp hi)⟩, fun D hD => lc_tup (K := K) (Pv D) (h0 D _ (S.new hD)) (fun i H _ q => SqT.of (hl D i H q)) (hs D) (hd D)⟩
end
/-- sum(xs) -/
def gSum (K : PySem.W.Frag) : List V → Hp → VK → Prop := rSum K
theorem call_gSum {X : Cx} {K : PySem.W.Frag} (hK : X.K = K) (hc : X.calm = true) : CallR X (.builtin "sum") (gSum K) := by rw [← hK]; exact cr_sum hc
section
variable {l : List Asn} {H : Hp} {K : PySem.W.Frag} {Q : VK} {p : Addr} {e : Nat}
theorem c_sum {ns : List Int} (S : Sep l H) (hi : l[e]? = some (At p (.lst (ns.map V.int)))) (q : Q (.int ns.sum) H) : gSum K [.ref p] H Q := ⟨p, ns, rfl, SqL.of (S.at hi), q⟩
end
local macro_rules | `(tactic| walk_at "v1") => `(tactic| ((with_reducible refine' c_sum (by assumption) ?hi ?_); (case hi => walk_at "has")))
theorem is_nn {P : Bool → Prop} (q : P true) : P (decide (V.non = V.non)) := by rw [decide_eq_true rfl]; exact q
theorem is_in {n : Int} {P : Bool → Prop} (q : P false) : P (decide (V.int n = V.non)) := by rw [decide_eq_false (fun z => nomatch z)]; exact q

/-! own errors: made, raised, caught -/
theorem SepF.ext {l : List Asn} {g : Addr → Prop} {H H' : Hp} (S : SepF l g H) (h : ∀ b o, H b = some o → H' b = some o) : SepF l g H' :=
  S.st (fun a z => by
    obtain ⟨o, e⟩ := S.al a z
    rw [e]; exact h a o e) fun b xs e => h b _ e
theorem Sep.ext {l : List Asn} {H H' : Hp} (S : Sep l H) (h : ∀ b o, H b = some o → H' b = some o) : Sep l H' := by
  obtain ⟨g, S⟩ := S
  exact ⟨g, S.ext h⟩
theorem Sep.ext1 {l : List Asn} {H H' : Hp} {d : Addr} {o : HO} (S : Sep l H) (h : ∀ b o, H b = some o → H' b = some o) (hd : H d = none) (hd' : H' d = some o) : Sep (At d o :: l) H' := by
  obtain ⟨g, S⟩ := S
  refine ⟨_, .cons (f := fun a => a = d) ⟨hd', fun _ => Iff.rfl⟩ (S.ext h) fun a z w => ?_⟩
  obtain ⟨u, e⟩ := S.al a w
  rw [z, hd] at e
  cases e
/-- __init__ of an error with one field f -/
def sp_exi (K : PySem.W.Frag) (f : Str) : Sp := fun vs H Q _ => ∃ (a C : Addr) (x : V), vs = [.ref a, x] ∧ OexC K C ∧ PySem.W.findIn K (.ref C) f = some none ∧ H a = some (exo a C none) ∧
  ∀ dx, H dx = none → dx ≠ a → Q .non (upd (upd H dx (exd dx [(f, x)])) a (exo a C (some dx)))
section
variable {σ : L2.St} {H : Hp} {K : PySem.W.Frag} {to te : TE} {ta : TA} {f : Str} {nx bk ct : L2.St → Hp → Prop} {rt : VK} {Q : VK} {l : List Asn} {C : Addr} {x : V} {W : WX} {sp : Sp} {dvs : List V}
def tOstK (K : PySem.W.Frag) (f : Str) (to te : TE) : TS := tOst K f to te
theorem ps_gOst {X : Cx} {o e : Expr} {p' pos : Pos} (hK : X.K = K) (ho : PE X o to) (he : PE X e te) (hs : swapsWith e (some (.Attribute o f p')) pos.line X.env = pure false := by rfl) : PS X (.Assign [.Attribute o f p'] e pos) (tOstK K f to te) := by
  rw [← hK]; exact ps_ost ho he hs
theorem r_ost (q : te σ H fun y H1 => to σ H1 fun x H2 => ∃ a C : Addr, x = .ref a ∧ OexC K C ∧ PySem.W.findIn K (.ref C) f = some none ∧
  ((H2 a = some (exo a C none) ∧ ∀ dx, H2 dx = none → dx ≠ a → nx σ (upd (upd H2 dx (exd dx [(f, y)])) a (exo a C (some dx)))) ∨
    ∃ (dx : Addr) (fs : List (Str × V)), H2 a = some (exo a C (some dx)) ∧ H2 dx = some (exd dx fs) ∧ fs.length ≤ 900 ∧ nx σ (upd H2 dx (exd dx ((f, y) :: fs))))) : tOstK K f to te ⟨nx, rt, bk, ct⟩ σ H := q
/-- what C(x) asks where it is raised -/
@[irreducible] def gMkO (C : Addr) (sp : Sp) (dvs vs : List V) (H1 : Hp) (Q : XK) : Prop := vs.length ≤ 1000 ∧ ∀ a, H1 a = none → sp (.ref a :: (vs ++ dvs)) (upd H1 a (exo a C none))
  (fun v H2 => v = .non ∧ ∃ (d : Addr) (fs : List (Str × V)), H2 a = some (exo a C (some d)) ∧ H2 d = some (exd d fs) ∧ H1 d = none ∧ Q (.ref C) (some d) (upd (del H2 a) d (.xd fs))) (fun _ _ _ => False)
theorem mk_one {Q : XK} (S : Sep l H) (T : OexC K C) (hno : PySem.W.findIn K (.ref C) f = some none) (k : ∀ d H', Sep (At d (.xd [(f, x)]) :: l) H' → Q (.ref C) (some d) H') : gMkO C (sp_exi K f) [] [x] H Q := by
  unfold gMkO
  refine ⟨by show 1 ≤ 1000; decide, fun a ha => ⟨a, C, x, rfl, T, hno, upd_same, fun dx hdx hne => ⟨rfl, dx, [(f, x)], upd_same, by rw [upd_ne hne]; exact upd_same, ?_, ?_⟩⟩⟩
  · rw [upd_ne hne] at hdx; exact hdx
  · have hd1 : H dx = none := by rw [upd_ne hne] at hdx; exact hdx
    refine k dx _ (S.ext1 (fun b o e => ?_) hd1 upd_same)
    have hb : b ≠ dx := fun z => by rw [z, hd1] at e; cases e
    have hba : b ≠ a := fun z => by rw [z, ha] at e; cases e
    rw [upd_ne hb, del_ne hba, upd_ne hba, upd_ne hb, upd_ne hba]
    exact e
/-- raise C(..) -/
def tRaise (C : Addr) (sp : Sp) (dvs : List V) (ta : TA) (W : WX) : TS := fun _ σ H => ta σ H fun vs H1 => gMkO C sp dvs vs H1 fun cls d H' => W cls d σ H'
theorem ps_gRaise {X : Cx} {e : Expr} {pos : Pos} (hc : X.calm = true) (tk : Takes X W) (he : PMk X e (tMkO C sp dvs ta)) : PS X (.Raise (some e) none pos) (tRaise C sp dvs ta W) := by
  have h := ps_raise (pos := pos) hc tk he
  unfold tRaise gMkO
  exact h
theorem r_raise {D : L2.Ends} (q : ta σ H fun vs H1 => gMkO C sp dvs vs H1 fun cls d H' => W cls d σ H') : tRaise C sp dvs ta W D σ H := q
/-- try .. except C: .. -/
def tTry (K : PySem.W.Frag) (c : Value) (tb : WX → TS) (ts : Addr → Value → Option Addr → TS) (Wout : WX) : TS := fun D σ H => tb (wOnly K c ts Wout D) D σ H
theorem ps_gTry {X : Cx} {x : Str} {c : Value} {body suite : List Stmt} {b₀ : Stmt} {np pos pos' : Pos} {tb : WX → TS} {ts : Addr → Value → Option Addr → TS} {Wout : WX} (hK : X.K = K) (hs : X.stack = X.env :: X.outer) (hf : X.env.frame = some X.env.locals) (hc : Names X x c) (tk : Takes X Wout)
    (hb : ∀ (W : WX) (pn : List (Addr × Obj)) (xe : Value → Shared → Prop), Takes (X.tr pn xe) W → PassesOwn (model X.prog X.w) X.A X.env xe → PSs (X.tr pn xe) body (tb W))
    (hsu : ∀ (a : Addr) (oe : Obj) (cls : Value) (d : Option Addr) (pn : List (Addr × Obj)), Zc cls d oe → (∃ vs, oe.data = .fields vs) → PSs (X.suite a ((a, oe) :: pn)) (b₀ :: suite) (ts a cls d)) :
    PS X (.Try body [.ExceptHandler (some (.Name x np)) none (b₀ :: suite) pos'] [] [] pos) (tTry K c tb ts Wout) := by
  rw [← hK]; exact ps_try_only hs hf hc tk hb hsu
theorem r_try {c : Value} {tb : WX → TS} {ts : Addr → Value → Option Addr → TS} {Wout : WX} (q : tb (wOnly K c ts Wout ⟨nx, rt, bk, ct⟩) ⟨nx, rt, bk, ct⟩ σ H) : tTry K c tb ts Wout ⟨nx, rt, bk, ct⟩ σ H := q
theorem w_only {c cls : Value} {d : Option Addr} {ts : Addr → Value → Option Addr → TS} {Wout : WX} {D : L2.Ends} (h : PySem.W.exmOne K cls c = some true) (k : ∀ a, H a = none → ts a cls d D σ H) : wOnly K c ts Wout D cls d σ H :=
  ⟨true, h, fun _ => k, fun z => nomatch z⟩
end
/-- an error of the class C meets the clause except S -/
theorem exm_pair {K : PySem.W.Frag} {C S : Addr} {b : Bool} (h1 : PySem.W.subIn K (.ref S) (.type "BaseException") = some true) (h2 : PySem.W.isClsIn K S = true) (h3 : PySem.W.typeIn K (.ref S) = some (.type "type")) (h4 : PySem.W.subIn K (.ref C) (.ref S) = some b) : PySem.W.exmOne K (.ref C) (.ref S) = some b := by
  have h5 : (PySem.W.clsIn K S).isSome = true := h2
  unfold PySem.W.exmOne
  simp [h1, h3, h5, h4, PySem.W.kitCls]
open PyProof.Rows in
/-- as fun_star, for a def that may raise -/
theorem fun_starX {P : Program} {w : World} {K : PySem.W.Frag} {mg : Str → Option Value} {base : Heap} {x qual : Str} {st : Stmt} {f : Addr} {fd : FuncData} {N ps : List Str} {pv : Str} {k : Nat} {sp : Sp} (F : Fun K x qual st f fd) (S : FnScope N (ps ++ [pv]) (defScope st))
    (hb : ∀ (kV doc pm : Value) (an : Option Addr) (cdv ct : Value) (us rest : List Value), us.length = ps.length → bindArgs (PySem.W.fnOf x qual (defArgs st) (defBody st) (defScope st) .none kV doc pm an cdv ct) ⟨us ++ rest, []⟩ = (newTuple rest >>= fun t => pure (ps.zip us ++ [(pv, t)])))
    (hbody : ∀ (cdv : Value) (A : Around) (outer : List Env) (s : Shared) (H : Hp) (vs : List V) (Q : VK) (E : XK), Room k (A.deeper (envOfC qual (defScope st) s.heap.objs.size f cdv)) → sp vs H Q E →
      ∃ t, PSs (cxOf (L2.CX P w) P w K mg base N qual (defScope st) f cdv A outer s H E) (defBody st) t ∧ t { nx := fun _ H' => Q .non H', rt := Q } (start N vs) H) : FnR P w K mg base (L2.CX P w) (k + 1) f (stSp ps.length sp) := by
  obtain ⟨oc, od, kV, doc, pm, an, cdv, ct, osl, rfl, lk, hcd⟩ := F.ex
  exact StX.fn_star lk hcd S StX.cxUp (hb kV doc pm an cdv ct) fun A outer s H vs Q E hr hsp => hbody cdv A outer s H vs Q E hr hsp
local macro_rules | `(tactic| walk_at "v1") => `(tactic| (first
  | with_reducible refine r_raise ?_
  | with_reducible refine r_ost ?_
  | with_reducible refine r_try ?_))

/-! except .. as e: its fields, its class -/
/-- isinstance(e, c), e a caught error with a dict -/
def rIsD (K : PySem.W.Frag) (D a : Addr) (cls : Value) (d : Option Addr) : List V → Hp → VK → Prop := fun zs H Q => ∃ (c : V) (cv : Value) (b : Bool) (dd : Addr) (fs : List (Str × V)), zs = [.ref a, c] ∧ cls = .ref D ∧ d = some dd ∧ H dd = some (.xd fs) ∧ ClsV c cv ∧ PySem.W.kitOne K (.ref D) cv = some b ∧ Q (.bl b) H
theorem call_isD {X : Cx} {K : PySem.W.Frag} (hK : X.K = K) {a D : Addr} {oe : Obj} {cls : Value} {d : Option Addr} {pn : List (Addr × Obj)} (T : ExcC K D) (hz : Zc cls d oe) (hf : ∃ vs, oe.data = .fields vs) : CallR (X.suite a ((a, oe) :: pn)) (.builtin "isinstance") (rIsD K D a cls d) := by
  subst hK
  intro ps s0 σ0 H0 zs us Q0 I0 r0 h0
  obtain ⟨c, cv, b, dd, fs, rfl, ec, ed, hd, hcv, e, q⟩ := h0
  obtain ⟨u1, u2, rfl, r1, r2⟩ := r0.two
  cases (show u1 = Value.ref a from r1)
  cases hcv.eq r2
  subst ec ed
  have hp := (I0.pin (a, oe) (by simp [Cx.suite])).1
  obtain ⟨fv, hv⟩ := hf
  have ho : ObjOk X.prog X.w H0 s0.heap dd (.xd fs) := I0.hok dd _ hd
  obtain ⟨mA, hns, _⟩ := ho
  obtain ⟨od, hod, _⟩ := lookIn_ns hns
  have J : PySem.W.InstAt s0.heap a oe D (some od) := ⟨hp, hz.1, by unfold PySem.W.notCls; rw [hv], by rw [hz.2]; exact hod⟩
  have hcl : (PySem.W.clsIn X.K D).isSome = true := by
    obtain ⟨cd, hc, _⟩ := PySem.W.any_some T.hd
    rw [hc]; rfl
  exact PySem.W.kia_one (PySem.W.kitx_exc hcl T.hg T.hk T.hs T.ha T.hn T.ht T.hm) I0.kIn J e (by intro z; cases z) fun tk => ⟨.bl b, H0, I0.kept (t' := tk) (fun _ _ z => z), rfl, q⟩
/-- e.f, e a caught error -/
def gXf (a : Addr) (cls : Value) (d : Option Addr) (C : Addr) (f : Str) (x : V) (H1 : Hp) (Q : VK) : Prop := x = .ref a ∧ cls = .ref C ∧ ∃ (dd : Addr) (fs : List (Str × V)) (v : V), d = some dd ∧ H1 dd = some (.xd fs) ∧ fs.lookup f = some v ∧ Q v H1
section
variable {σ : L2.St} {H : Hp} {K : PySem.W.Frag} {te : TE} {ta : TA} {f : Str} {nx bk ct : L2.St → Hp → Prop} {rt : VK} {Q : VK} {l : List Asn} {C D : Addr} {x v : V} {W : WX} {sp : Sp} {i j : Nat} {a dd : Addr} {fs : List (Str × V)}
theorem r_xf {cls : Value} {d : Option Addr} (q : te σ H fun x H1 => gXf a cls d C f x H1 Q) : tXf a cls d C f te σ H Q := q
theorem x_xf (S : Sep l H) (hi : l[i]? = some (At dd (.xd fs))) (hf : fs.lookup f = some v) (q : Q v H) : gXf a (.ref C) (some dd) C f (.ref a) H Q := ⟨rfl, rfl, dd, fs, v, rfl, S.at hi, hf, q⟩
theorem c_isD {c : V} {cv : Value} {b : Bool} (S : Sep l H) (hi : l[i]? = some (At dd (.xd fs))) (hc : ClsV c cv) (hk : PySem.W.kitOne K (.ref D) cv = some b) (q : Q (.bl b) H) : rIsD K D a (.ref D) (some dd) [.ref a, c] H Q := ⟨c, cv, b, dd, fs, rfl, rfl, rfl, S.at hi, hc, hk, q⟩
theorem pe_gXf {X : Cx} (hK : X.K = K) {oe : Obj} {cls : Value} {d : Option Addr} {pn : List (Addr × Obj)} {e : Expr} {pos : Pos} {n : Str} (T : XfC K C) (hno : PySem.W.findIn K (.ref C) n = some none) (hz : Zc cls d oe) (hf : ∃ vs, oe.data = .fields vs) (he : PE (X.suite a ((a, oe) :: pn)) e te) (hb : attributeBase e n X.env (eval e X.env) = eval e X.env := by rfl) :
    PE (X.suite a ((a, oe) :: pn)) (.Attribute e n pos) (tXf a cls d C n te) := by subst hK; exact pe_xf T hno hz hf he hb
/-- try .. except C as e: .. (e in slot i) -/
def tTryAs (K : PySem.W.Frag) (c : Value) (i : Nat) (tb : WX → TS) (ts : Addr → Value → Option Addr → TS) (Wout : WX) : TS := fun D σ H => tb (wAs K c i ts Wout D) D σ H
theorem ps_gTryAs {X : Cx} {x n : Str} {c : Value} {body suite : List Stmt} {b₀ : Stmt} {np p1 p2 : Pos} {tb : WX → TS} {ts : Addr → Value → Option Addr → TS} {Wout : WX} (hK : X.K = K) (hs : X.stack = X.env :: X.outer) (hf : X.env.frame = some X.env.locals) (hN : X.N.Nodup) (hi : X.N[i]? = some n) (hln : X.env.kindOf n = some .local) (hc : Names X x c) (tk : Takes X Wout)
    (hb : ∀ (W : WX) (pn : List (Addr × Obj)) (xe : Value → Shared → Prop), Takes (X.tr pn xe) W → PassesOwn (model X.prog X.w) X.A X.env xe → PSs (X.tr pn xe) body (tb W))
    (hsu : ∀ (a : Addr) (oe : Obj) (cls : Value) (d : Option Addr) (pn : List (Addr × Obj)), Zc cls d oe → (∃ vs, oe.data = .fields vs) → PSs (X.suite a ((a, oe) :: pn)) (b₀ :: suite) (ts a cls d)) :
    PS X (.Try body [.ExceptHandler (some (.Name x np)) (some n) (b₀ :: suite) p2] [] [] p1) (tTryAs K c i tb ts Wout) := by
  subst hK; exact ps_try_as hs hf hN hi hln hc tk hb hsu
theorem r_tryAs {c : Value} {tb : WX → TS} {ts : Addr → Value → Option Addr → TS} {Wout : WX} (q : tb (wAs K c i ts Wout ⟨nx, rt, bk, ct⟩) ⟨nx, rt, bk, ct⟩ σ H) : tTryAs K c i tb ts Wout ⟨nx, rt, bk, ct⟩ σ H := q
theorem w_as {c cls : Value} {d : Option Addr} {ts : Addr → Value → Option Addr → TS} {Wout : WX} (h : PySem.W.exmOne K cls c = some true) (k : ∀ a, H a = none → ts a cls d ⟨fun σ' H' => nx (σ'.set i none) H', rt, fun σ' H' => bk (σ'.set i none) H', fun σ' H' => ct (σ'.set i none) H'⟩ (σ.set i (some (.ref a))) H) : wAs K c i ts Wout ⟨nx, rt, bk, ct⟩ cls d σ H :=
  ⟨true, h, fun _ => k, fun z => Bool.noConfusion z⟩
theorem r_callS {E : L2.St → XK} (q : ta σ H fun vs H1 => sp vs H1 Q (E σ)) : tCallS sp E ta σ H Q := q
/-- a, b, .. = a list -/
def gLstK (K : PySem.W.Frag) (n : Nat) (t : TGs) : TG := gLst K n t
theorem pg_gLst {X : Cx} {pos : Pos} {es : List Expr} {k : Nat} {t : TGs} {n : Nat} (hK : X.K = K) (hc : X.calm = true) (h : PGs X es t) (hn : (assignEach es X.env).length = n := by rfl) (hst : (assignEach es X.env).findIdx? (·.1) = none := by rfl) : PG X (.Tuple es k pos) (gLstK K n t) := by
  subst hK; exact pg_lst hc h hn hst
theorem g_lstK {t : TGs} {p : Addr} {xs : List V} {R : L2.St → Hp → Prop} (S : Sep l H) (hi : l[j]? = some (At p (.lst xs))) (hz : xs.length = i) (q : t xs σ H R) : gLstK K i t (.ref p) σ H R := ⟨p, xs, rfl, SqL.of (S.at hi), hz, q⟩
end
/-- a value that is known: plain, or a list that stands in the frame -/
def Lx (fr : List Asn) (x : V) : Prop := (∃ n, x = .int n) ∨ (∃ b, x = .bl b) ∨ x = .non ∨ (∃ w : Str, x = .str w ∧ w.length ≤ 3000) ∨ ∃ (p : Addr) (ys : List V) (i : Nat), x = .ref p ∧ fr[i]? = some (At p (.lst ys))
theorem Lx.up {fr : List Asn} {x : V} {A : Asn} (h : Lx fr x) : Lx (A :: fr) x := by
  rcases h with h | h | h | h | ⟨p, ys, i, h1, h2⟩
  · exact .inl h
  · exact .inr (.inl h)
  · exact .inr (.inr (.inl h))
  · exact .inr (.inr (.inr (.inl h)))
  · exact .inr (.inr (.inr (.inr ⟨p, ys, i + 1, h1, h2⟩)))
theorem lx_str {fr : List Asn} {w : Str} (h : w.length ≤ 3000) : Lx fr (.str w) := .inr (.inr (.inr (.inl ⟨w, rfl, h⟩)))
theorem lx_int {fr : List Asn} {n : Int} : Lx fr (.int n) := .inl ⟨n, rfl⟩
theorem Lx.int? {K : PySem.W.Frag} {H : Hp} {fr : List Asn} {x : V} (h : Lx fr x) (S : Sep fr H) : (∃ n, x = .int n) ∨ (∃ b, x = .bl b) ∨ ((∃ t, TyX K H x t ∧ PySem.W.kitOne K t (.type "int") = some false) ∧ ∀ n, x ≠ .int n) := by
  rcases h with ⟨n, rfl⟩ | ⟨b, rfl⟩ | rfl | ⟨w, rfl, _⟩ | ⟨p, ys, i, rfl, hi⟩
  · exact .inl ⟨n, rfl⟩
  · exact .inr (.inl ⟨b, rfl⟩)
  · exact .inr (.inr ⟨⟨_, .base .non, kit_ty k_ni⟩, fun _ z => nomatch z⟩)
  · exact .inr (.inr ⟨⟨_, .base (.str w), kit_ty k_si⟩, fun _ z => nomatch z⟩)
  · exact .inr (.inr ⟨⟨_, .base (.lst (S.at hi)), kit_ty k_li⟩, fun _ z => nomatch z⟩)
theorem Lx.str? {K : PySem.W.Frag} {H : Hp} {fr : List Asn} {x : V} (h : Lx fr x) (S : Sep fr H) : (∃ w : Str, x = .str w ∧ w.length ≤ 3000) ∨ ((∃ t, TyX K H x t ∧ PySem.W.kitOne K t (.type "str") = some false) ∧ ∀ w, x ≠ .str w) := by
  rcases h with ⟨n, rfl⟩ | ⟨b, rfl⟩ | rfl | ⟨w, rfl, h⟩ | ⟨p, ys, i, rfl, hi⟩
  · exact .inr ⟨⟨_, .base (.int n), kit_ty k_is⟩, fun _ z => nomatch z⟩
  · exact .inr ⟨⟨_, .base (.bl b), kit_ty k_bs⟩, fun _ z => nomatch z⟩
  · exact .inr ⟨⟨_, .base .non, kit_ty k_ns⟩, fun _ z => nomatch z⟩
  · exact .inl ⟨w, rfl, h⟩
  · exact .inr ⟨⟨_, .base (.lst (S.at hi)), kit_ty k_ls⟩, fun _ z => nomatch z⟩
/-- the parts of a rule, good or bad -/
def okN (x : V) : Prop := ∃ n : Int, x = .int n ∧ 0 ≤ n ∧ n < 10
def okK (x : V) : Prop := ∃ w : Str, x = .str w ∧ Kd w
def BadN (ns : List V) : Prop := (∃ x ∈ ns, ¬ okN x) ∨ ∃ a b : Int, ns = [.int a, .int b] ∧ b < a
def BadK (ks : List V) : Prop := ¬ (1 ≤ ks.length ∧ ks.length ≤ 3) ∨ (∃ x ∈ ks, ¬ okK x) ∨ ¬ ks.Nodup
def Ver (ns ks : List V) (r : Option Str) : Prop := (BadN ns ∧ r = some "number") ∨ (¬ BadN ns ∧ BadK ks ∧ r = some "kinds") ∨ (¬ BadN ns ∧ ¬ BadK ks ∧ r = none)
theorem okN_int {n : Int} : okN (.int n) ↔ 0 ≤ n ∧ n < 10 := ⟨fun ⟨m, e, h⟩ => by cases e; exact h, fun h => ⟨n, rfl, h⟩⟩
theorem okK_str {w : Str} : okK (.str w) ↔ Kd w := ⟨fun ⟨m, e, h⟩ => by cases e; exact h, fun h => ⟨w, rfl, h⟩⟩
theorem oks_strs : ∀ {ks : List V}, (∀ x ∈ ks, okK x) → ∃ ws : List Str, ks = ws.map V.str ∧ ∀ w ∈ ws, Kd w
  | [], _ => ⟨[], rfl, fun _ z => nomatch z⟩
  | x :: ks, h => by
    obtain ⟨w, rfl, hw⟩ := h x List.mem_cons_self
    obtain ⟨ws, rfl, hs⟩ := oks_strs fun y hy => h y (List.mem_cons_of_mem _ hy)
    refine ⟨w :: ws, rfl, fun v hv => ?_⟩
    rcases List.mem_cons.1 hv with rfl | hv
    · exact hw
    · exact hs v hv
local macro_rules | `(tactic| walk_at "v1") => `(tactic| (first
  | with_reducible refine r_xf ?_
  | with_reducible refine r_tryAs ?_
  | with_reducible refine r_callS ?_
  | ((with_reducible refine' x_xf (by assumption) ?hi ?hf ?_); (case hi => walk_at "has"); (case hf => exact lk0))
  | ((with_reducible refine' g_lstK (by assumption) ?hi ?hz ?_); (case hi => walk_at "has"); (case hz => rfl))))

/-! **kw with names given -/
section
open PyProof.Rows
theorem prs_snoc {P : Program} {w : World} {e : DictEntry} {q : Key × Value} : ∀ {es : List DictEntry} {kvs : List (Key × Value)}, PySem.Pairs (mixKind P w) es kvs → (mixKind P w).is q.1 e.key = true → e.val = q.2 → PySem.Pairs (mixKind P w) (es ++ [e]) (kvs ++ [q])
  | _, _, .nil, h1, h2 => .cons h1 h2 .nil
  | _, _, .cons a b r, h1, h2 => .cons a b (prs_snoc r h1 h2)
theorem prs_mem {P : Program} {w : World} : ∀ {es : List DictEntry} {kvs : List (Key × Value)}, PySem.Pairs (mixKind P w) es kvs → ∀ e ∈ es, ∃ q ∈ kvs, (mixKind P w).is q.1 e.key = true
  | _, _, .nil, _, z => nomatch z
  | _, _, .cons a b r, e, z => by
    rcases List.mem_cons.1 z with rfl | z
    · exact ⟨_, List.mem_cons_self, a⟩
    · obtain ⟨q, hq, h⟩ := prs_mem r e z
      exact ⟨q, List.mem_cons_of_mem _ hq, h⟩
/-- a new name put into a dict -/
theorem ns_put {P : Program} {w : World} {A : Around} {E : Value → Shared → Prop} {s : Shared} {a : Addr} {kvs : List (Key × Value)} {x : Str} {u : Value} {Q : Unit → Shared → Prop} (dd : s.heap.DictOf (mixKind P w) a kvs) (hx : ∀ q ∈ kvs, q.1 ≠ .inr x)
    (h : ∀ h', h'.DictOf (mixKind P w) a (kvs ++ [(.inr x, u)]) → (∀ b, b ≠ a → h'.get? b = s.heap.get? b) → h'.objs.size = s.heap.objs.size → Q () { s with heap := h', toks := s.toks + 1 }) : wpAny (model P w) A (nsSet a x u) Q E s := by
  obtain ⟨o, es, ep, ho, hxd, hd, hk, hp, hn⟩ := dd
  have hno : ∀ e ∈ es, e.key.isStr x = false := fun e he => by
    obtain ⟨q, hq, hi⟩ := prs_mem hp e (Array.mem_toList_iff.2 he)
    cases hs : e.key.isStr x
    · rfl
    · exfalso
      rcases keyIs_shape hi with ⟨i, t, e1, e2⟩ | ⟨y, t, e1, e2⟩
      · rw [e2] at hs; simp [Value.isStr] at hs
      · rw [e2] at hs
        have : y = x := by simpa [Value.isStr] using hs
        exact hx q hq (by rw [e1, this])
  have hni : es.findIdx? (fun e => e.key.isStr x) = none := by
    rw [Array.findIdx?_eq_none_iff]
    exact fun e he => hno e he
  have hrk : es.any (·.refKey) = false := by
    rw [Array.any_eq_false']
    intro e he
    obtain ⟨q, hq, hi⟩ := prs_mem hp e (Array.mem_toList_iff.2 he)
    rcases keyIs_shape hi with ⟨i, t, _, e2⟩ | ⟨y, t, _, e2⟩ <;> simp [DictEntry.refKey, e2]
  obtain ⟨c, od, dt, sl⟩ := o
  dsimp only at hd
  subst hd
  unfold nsSet strHash
  refine wpAny_bind (wpAny_bind (wpAny_askSetting (wpAny_pure ?_)))
  refine wpAny_bind (wpAny_mkText (wpAny_bind (wpAny_loadPart ho ?_)))
  have hq : aRefKeyMayBeTheName x es = false := by simp only [aRefKeyMayBeTheName_eq, aRefKeyMayBeTheNameByArray, hrk, Bool.and_false]
  show wpAny _ _ (if aRefKeyMayBeTheName x es = true then _ else _) _ _ _
  rw [if_neg (by rw [hq]; exact Bool.false_ne_true)]
  have ep1 : ∀ (hh : Int) (ky : Value), Obj.putName x hh ky u ⟨c, od, .dict es ep, sl⟩ = ⟨c, od, .dict (es.push ⟨hh, ky, u⟩) (ep + 1), sl⟩ := fun hh ky => by simp only [Obj.putName_eq, Obj.putNameByArray, hni]
  refine wpAny_updatePart ho ?_
  refine h _ ⟨_, _, ep + 1, (Heap.get?_update_self _ ho (by rw [ep1]; rfl)).trans (congrArg some (ep1 _ _)), hxd, rfl, ?_, ?_, ?_⟩ (fun b hb => Heap.get?_update_other _ _ (Ne.symm hb)) ?_
  · intro e he
    rcases Array.mem_push.1 he with he | rfl
    · exact hk e he
    · exact ⟨.inr x, keyIs_str x s.toks, rfl⟩
  · rw [Array.toList_push]
    exact prs_snoc hp (keyIs_str x s.toks) rfl
  · rw [List.map_append]
    refine List.nodup_append.2 ⟨hn, by simp, fun k hk' k2 hk2 e => ?_⟩
    obtain ⟨q, hq, rfl⟩ := List.mem_map.1 hk'
    rw [List.map_cons, List.map_nil, List.mem_singleton] at hk2
    exact hx q hq (e.trans hk2)
  · exact Heap.size_update _ _ _
/-- names and values, put in turn into a new dict -/
def kwFill (d : Addr) : List (Str × Value) → Sem Unit
  | [] => pure ()
  | p :: r => (nsSet d p.1 p.2 >>= fun _ => pure (ForInStep.yield PUnit.unit)) >>= fun (s : ForInStep PUnit) => match s with
    | .done b => pure b
    | .yield _ => kwFill d r
def kwK (ps : List (Str × Value)) : List (Key × Value) := ps.map fun p => (.inr p.1, p.2)
theorem kw_fill {P : Program} {w : World} {A : Around} {E : Value → Shared → Prop} {d : Addr} {Q : Unit → Shared → Prop} : ∀ (ps : List (Str × Value)) (kvs : List (Key × Value)) (s : Shared), s.heap.DictOf (mixKind P w) d kvs → (ps.map (·.1)).Nodup → (∀ p ∈ ps, ∀ q ∈ kvs, q.1 ≠ .inr p.1) →
    (∀ h' t', h'.DictOf (mixKind P w) d (kvs ++ kwK ps) → (∀ b, b ≠ d → h'.get? b = s.heap.get? b) → h'.objs.size = s.heap.objs.size → Q () { s with heap := h', toks := t' }) → wpAny (model P w) A (kwFill d ps) Q E s
  | [], kvs, s, dd, _, _, h => wpAny_pure (h s.heap s.toks (by rw [show kwK [] = [] from rfl, List.append_nil]; exact dd) (fun _ _ => rfl) rfl)
  | p :: r, kvs, s, dd, hn, hx, h => by
    rw [List.map_cons, List.nodup_cons] at hn
    refine wpAny_bind (wpAny_bind (ns_put dd (fun q hq => hx p List.mem_cons_self q hq) fun h1 d1 k1 z1 => wpAny_pure ?_))
    refine kw_fill r (kvs ++ [(.inr p.1, p.2)]) { s with heap := h1, toks := s.toks + 1 } d1 hn.2 (fun p' hp q hq => ?_) fun h2 t2 d2 k2 z2 => ?_
    · rcases List.mem_append.1 hq with hq | hq
      · exact hx p' (List.mem_cons_of_mem _ hp) q hq
      · rw [List.mem_singleton.1 hq]
        intro e
        exact hn.1 (List.mem_map.2 ⟨p', hp, (Sum.inr.inj e).symm⟩)
    · refine h h2 t2 (by rw [List.append_assoc] at d2; exact d2) (fun b hb => (k2 b hb).trans (k1 b hb)) (z2.trans z1)
def kwV (ks : List Str) (zs : List V) : List (Key × V) := (ks.zip zs).map fun p => (.inr p.1, p.2)
theorem kv_kw : ∀ {ks : List Str} {zs : List V} {ws : List Value}, Vals zs ws → KV (kwV ks zs) (kwK (ks.zip ws))
  | [], zs, ws, r => by rw [show kwV [] zs = [] from rfl, show kwK (([] : List Str).zip ws) = [] from rfl]; exact .nil
  | k :: ks, [], _, .nil => .nil
  | k :: ks, z :: zs, _, .cons a r => .cons ⟨rfl, a⟩ (kv_kw r)
/-- a function called with keywords -/
def FnK (P : Program) (w : World) (K : PySem.W.Frag) (mg : Str → Option Value) (base : Heap) (CX : CXT) (k : Nat) (f : Addr) (ks : List Str) (sp : List V → Sp) : Prop :=
  ∀ (A : Around) (outer : List Env) (s : Shared) (H : Hp) (us ws : List Value) (vs zs : List V) (Q : VK) (E : XK), Room k A → Env0 P w K mg base A outer s H → Vals vs us → Vals zs ws → sp zs vs H Q E → codeAny (model P w) A (.call (.ref f) ⟨us, ks.zip ws⟩) (CR CX outer P w H s Q E) s
def kwSpN (n : Nat) (ks : List Str) (sp : Sp) : List V → Sp := fun zs vs H Q E => vs.length = n ∧ zs.length = ks.length ∧ ∀ d, H d = none → sp (vs ++ [V.ref d]) (upd H d (.dK (kwV ks zs))) Q E
theorem env0_laidG {P : Program} {w : World} {K : PySem.W.Frag} {mg : Str → Option Value} {base : Heap} {A : Around} {outer : List Env} {s : Shared} {H : Hp} {u : HO} {h' : Heap} {t' : Nat} (e0 : Env0 P w K mg base A outer s H) (kp : ∀ b x, s.heap.get? b = some x → h'.get? b = some x) (hz : s.heap.objs.size ≤ h'.objs.size) (new : ObjOk P w (upd H s.heap.objs.size u) h' s.heap.objs.size u) :
    Env0 P w K mg base A outer { s with heap := h', toks := t' } (upd H s.heap.objs.size u) where
  frames := e0.frames
  mod := e0.mod
  bs := fun b x e => ⟨kp b x (e0.bs b x e).1, by rw [upd_ne (Nat.ne_of_lt (Heap.lt_size (e0.bs b x e).1))]; exact (e0.bs b x e).2⟩
  bsz := Nat.le_trans e0.bsz hz
  funs := Heap.FunFrames.of_keeps (fun b x e _ => ⟨x, kp b x e, rfl⟩) e0.funs
  frf := fun b hb => by
    obtain ⟨_, x, hx, _⟩ := e0.funs.mem hb
    rw [upd_ne (Nat.ne_of_lt (Heap.lt_size hx))]
    exact e0.frf b hb
  hok := e0.hok.laid kp (Nat.le_refl _) new
  bare := e0.bare
section
variable {CX : CXT} {P : Program} {w : World} {K : PySem.W.Frag} {mg : Str → Option Value} {base : Heap} {k : Nat} {f : Addr} {name qual : Str} {params : Arguments} {body : List Stmt} {scope : Scope} {dV kV doc pm cdv ct oc : Value} {an od : Option Addr}
  {osl : Array (Option Value)} {N ps ks : List Str} {sp : Sp}
theorem fn_kwN {pd : Str} (lk : K.lookup f = some ⟨oc, od, .func (PySem.W.fnOf name qual params body scope dV kV doc pm an cdv ct), osl⟩) (hcd : PySem.W.codeIn K cdv qual = true) (S : FnScope N (ps ++ [pd]) scope) (hCX : StX.CXUp CX) (hks : ks.Nodup) (hkz : ks.length ≤ 900)
    (bind : ∀ us ws : List Value, us.length = ps.length → ws.length = ks.length → bindArgs (PySem.W.fnOf name qual params body scope dV kV doc pm an cdv ct) ⟨us, ks.zip ws⟩ = ((alloc ({ cls := .type "dict", data := .dict #[] } : Obj) : Sem Addr) >>= fun d => kwFill d (ks.zip ws) >>= fun _ => pure (ps.zip us ++ [(pd, Value.ref d)])))
    (walk : ∀ (A : Around) (outer : List Env) (s : Shared) (H : Hp) (vs : List V) (Q : VK) (E : XK), Room k (A.deeper (envOfC qual scope s.heap.objs.size f cdv)) → sp vs H Q E →
      ∃ t, PSs (cxOf CX P w K mg base N qual scope f cdv A outer s H E) body t ∧ t { nx := fun _ H' => Q .non H', rt := Q } (start N vs) H) : FnK P w K mg base CX (k + 1) f ks (kwSpN ps.length ks sp) := by
  rintro A outer s H us ws vs zs Q E hr e0 r rz ⟨hl, hlz, hq⟩
  have hn : H s.heap.objs.size = Option.none := e0.hok.fresh (Nat.le_refl _)
  have hlu : us.length = ps.length := by rw [← r.length]; exact hl
  have hlw : ws.length = ks.length := by rw [← rz.length]; exact hlz
  have hfst : (ks.zip ws).map (·.1) = ks := by rw [← List.unzip_fst, List.unzip_zip hlw.symm]
  refine StX.run_bnd lk hcd S hr e0 (G := fun xs H2 => ∃ d, H d = Option.none ∧ xs = vs ++ [V.ref d] ∧ H2 = upd H d (.dK (kwV ks zs))) (fun A' Ex Q' h => ?_) (fun s2 H2 xs g hr' => ?_)
  · rw [bind us ws hlu hlw]
    refine wpAny_bind (wpAny_alloc (wpAny_bind ?_))
    refine kw_fill (ks.zip ws) [] _ (Heap.DictOf.new s.heap) (by rw [hfst]; exact hks) (fun _ _ _ z => nomatch z) fun h' t' dd kp sz => wpAny_pure ?_
    have kp2 : ∀ b x, s.heap.get? b = some x → h'.get? b = some x := fun b x e => (kp b (Nat.ne_of_lt (Heap.lt_size e))).trans (Heap.get?_push_of_some _ e)
    have sz2 : s.heap.objs.size ≤ h'.objs.size := by rw [sz, Heap.size_push]; exact Nat.le_succ _
    have hmz : (kwV ks zs).length ≤ 900 := by
      unfold kwV
      rw [List.length_map, List.length_zip]
      omega
    have new : ObjOk P w (upd H s.heap.objs.size (.dK (kwV ks zs))) h' s.heap.objs.size (.dK (kwV ks zs)) :=
      ⟨Nat.le_trans hmz (by decide), beq_eq_false_iff_ne.mpr (Ne.symm (Nat.ne_of_lt (StX.env0_big e0))), _, kv_kw rz, dd⟩
    have e1 := env0_laidG (t' := t') e0 kp2 sz2 new
    have un : Un (frs outer) [] H (upd H s.heap.objs.size (.dK (kwV ks zs))) s.heap h' := Un.laid kp2 (Nat.le_refl _) hn
    have z := h _ _ (vs ++ [V.ref s.heap.objs.size]) (us ++ [Value.ref s.heap.objs.size]) e1 un rfl (fun e s' => hCX outer s H _ _ E e s' un kp2 rfl) (r.append (.cons rfl .nil)) (by rw [List.length_append, List.length_append, hl] <;> rfl) ⟨_, hn, rfl, rfl⟩
    rw [List.zip_append hlu.symm] at z
    exact z
  · obtain ⟨d, hd, rfl, rfl⟩ := g
    exact walk A outer s2 _ _ Q E hr' (hq d hd)
end
theorem fun_kwN {P : Program} {w : World} {K : PySem.W.Frag} {mg : Str → Option Value} {base : Heap} {x qual : Str} {st : Stmt} {f : Addr} {fd : FuncData} {N ps : List Str} {pd : Str} {k : Nat} {sp : Sp} (ks : List Str) (hks : ks.Nodup) (hkz : ks.length ≤ 900) (F : Fun K x qual st f fd) (S : FnScope N (ps ++ [pd]) (defScope st))
    (bind : ∀ (kV doc pm : Value) (an : Option Addr) (cdv ct : Value) (us ws : List Value), us.length = ps.length → ws.length = ks.length → bindArgs (PySem.W.fnOf x qual (defArgs st) (defBody st) (defScope st) .none kV doc pm an cdv ct) ⟨us, ks.zip ws⟩ = ((alloc ({ cls := .type "dict", data := .dict #[] } : Obj) : Sem Addr) >>= fun d => kwFill d (ks.zip ws) >>= fun _ => pure (ps.zip us ++ [(pd, Value.ref d)])))
    (walk : ∀ (cdv : Value) (A : Around) (outer : List Env) (s : Shared) (H : Hp) (vs : List V) (Q : VK) (E : XK), Room k (A.deeper (envOfC qual (defScope st) s.heap.objs.size f cdv)) → sp vs H Q E →
      ∃ t, PSs (cxOf (L2.CX P w) P w K mg base N qual (defScope st) f cdv A outer s H E) (defBody st) t ∧ t { nx := fun _ H' => Q .non H', rt := Q } (start N vs) H) : FnK P w K mg base (L2.CX P w) (k + 1) f ks (kwSpN ps.length ks sp) := by
  obtain ⟨oc, od, kV, doc, pm, an, cdv, ct, osl, rfl, lk, hcd⟩ := F.ex
  exact fn_kwN lk hcd S StX.cxUp hks hkz (bind kV doc pm an cdv ct) fun A outer s H vs Q E hr hsp => walk cdv A outer s H vs Q E hr hsp
/-- C(k = v, ..) of a class whose __init__ gathers them -/
def tMakeN (C : Addr) (sp : List V → Sp) (E : XK) (tk : TA) : TE := fun σ H Q => tk σ H fun zs H1 => ∀ x dx, H1 x = none → H1 dx = none → dx ≠ x → sp zs [V.ref x] (upd (upd H1 dx (.own x)) x (.ins C dx [])) (fun v H2 => v = .non ∧ Q (.ref x) H2) E
theorem run_makeN {X : Cx} {CX : CXT} {k : Nat} {f C : Addr} {ks : List Str} {sp : List V → Sp} {E : XK} {ps : List (Addr × Obj)} {σ : L2.St} {H : Hp} {s : Shared} {Q : VK} {ws : List Value} {zs : List V} (M : Mk X.K C f) (F : FnK X.prog X.w X.K X.mg X.base CX k f ks sp) (hr : Room (k + 1) X.A) (hx : Passes CX X E)
    (I : Inv X ps σ H s) (rz : Vals zs ws) (h : ∀ x dx, H x = none → H dx = none → dx ≠ x → sp zs [V.ref x] (upd (upd H dx (.own x)) x (.ins C dx [])) (fun v H2 => v = .non ∧ Q (.ref x) H2) E) : wpAny (model X.prog X.w) X.A (call (.ref C) [] (ks.zip ws)) (EP X ps σ Q) X.xe s := by
  have q0 := h (s.heap.objs.size + 1) s.heap.objs.size (I.hok.fresh (Nat.le_succ _)) (I.hok.fresh (Nat.le_refl _)) (Nat.ne_of_lt (Nat.lt_succ_self _))
  have J := Inv.made (C := C) I
  have rx : Vals [V.ref (s.heap.objs.size + 1)] [Value.ref (s.heap.objs.size + 1)] := .cons rfl .nil
  refine wpAny_call (make_map (f := f) I.kIn M.makes M.init (beq_iff_eq.mp M.fn) (codeAny_mono (F _ X.stack _ _ [Value.ref (s.heap.objs.size + 1)] ws _ _ _ E (hr.make C [] (ks.zip ws)) (J.env0.make C [] (ks.zip ws)) rx rz q0) fun r s' hr' => ?_))
  match r, hr' with
  | .error e, hr' => exact hx ps σ _ _ e s' J hr'
  | .ok (.ret u), hr' =>
    obtain ⟨v, H', J2, rv, ev, qv⟩ := J.after hr'
    subst ev
    exact ⟨rv, ⟨V.ref (s.heap.objs.size + 1), H', J2, rfl, qv⟩⟩
  | .ok .next, hr' => exact hr'.elim
  | .ok .brk, hr' => exact hr'.elim
  | .ok .cont, hr' => exact hr'.elim
theorem pe_makeN {X : Cx} {CX : CXT} {k : Nat} {f C : Addr} {ks : List Str} {sp : List V → Sp} {E : XK} {x : Str} {p pos : Pos} {kws : List Keyword} {tk : TA} (M : Mk X.K C f) (F : FnK X.prog X.w X.K X.mg X.base CX k f ks sp) (hr : Room (k + 1) X.A) (hg : Gl X x) (hm : X.mg x = some (.ref C)) (hx : Passes CX X E) (hkw : PK X kws tk)
    (hall : (backToKw pos (keywordEach kws X.env)).all (·.1.isSome) = true := by rfl) (hks : (backToKw pos (keywordEach kws X.env)).filterMap (·.1) = ks := by rfl) (hdb : (x == ("__debug__" : Str)) = false := by decide)
    (hpl : ((backTo pos (starEach [] X.env)).any (·.1) || (backToKw pos (keywordEach kws X.env)).any (·.1.isNone)) = false := by rfl) : PE X (.Call (.Name x p) [] kws pos) (tMakeN C sp E tk) := by
  refine ⟨fun ps σ0 σ H Q I h => ?_⟩
  refine wpAny_Call_Name_kw (ld_glob I hg hm ?_ hdb)
  refine PySem.W.callWith_KW0 (h₀ := X.base) I.ok.mod.kin M.kp hall ?_ hpl
  refine thn (hkw.run pos ps σ0 σ H _ I h) fun ws s2 hw => ?_
  obtain ⟨zs, H2, I2, rz, q2⟩ := hw
  refine ⟨I2.kIn, ?_⟩
  rw [hks]
  exact run_makeN M F hr hx I2 rz q2
theorem r_makeN {C : Addr} {sp : List V → Sp} {E : XK} {tk : TA} {σ : L2.St} {H : Hp} {Q : VK} (q : tk σ H fun zs H1 => ∀ x dx, H1 x = none → H1 dx = none → dx ≠ x → sp zs [V.ref x] (upd (upd H1 dx (.own x)) x (.ins C dx [])) (fun v H2 => v = .non ∧ Q (.ref x) H2) E) : tMakeN C sp E tk σ H Q := q
end
local macro_rules | `(tactic| walk_at "v1") => `(tactic| with_reducible refine r_makeN ?_)

/-! bool(o) by an own __bool__, list(s) -/
section
open PyProof.Rows
theorem bool_any {prog : Program} {w : World} {A : Around} {E : Value → Shared → Prop} {s : Shared} {v : Value} {Q : Value → Shared → Prop} (h : wpAny (model prog w) A.in1.in1 (truthy v) (fun b s₁ => Q (.bool b) s₁) E s) : wpAny (model prog w) A (call (.type "bool") [v]) Q E s := by
  refine callType_codes (T := "bool") (Bi := Builtin.«object.__init__») (Q₁ := fun r s₁ => ∃ b, r = Value.bool b ∧ Q r s₁) PySem.F.called_bool (PySem.F.typeCall_bool_1 _) PySem.F.entry_object_init ?_ ?_
  · refine codeAny_of_tree ?_
    show wpAny _ A.in1.in1 (do checkBuiltinCall "bool.__new__" ⟨[.type "bool", v], []⟩; again (.builtin "bool.__new__" ⟨[.type "bool", v], []⟩)) _ _ s
    refine wpAny_bind (wpAny_of_eq (PySem.F.newCall_bool_1 _) (wpAny_pure ⟨plainId_quiet (by decide +kernel) _, codeAny_builtin PySem.F.entry_bool_new ?_⟩))
    rw [(Around.under_plainId (by decide +kernel) _)]
    unfold Builtin.«bool.__new__»
    refine wpAny_bind (wpAny_of_eq (a := true) (by kernel_rfl) ?_)
    refine (PySem.W.KFB.if_not rfl ?_)
    refine wpAny_bind (wpAny_of_eq (a := true) PySem.F.conv_sub_bool ?_)
    refine (PySem.W.KFB.if_not rfl ?_)
    refine wpAny_bind (wpAny_of_eq (a := [v]) rfl ?_)
    refine wpAny_bind (wpAny_mono h (fun b s' hr => ?_) fun _ _ y => y)
    exact wpAny_pure ⟨b, rfl, hr⟩
  · rintro obj s₁ ⟨b, rfl, hq⟩
    exact ⟨PySem.typeIs_bool _ _, PySem.F.args_object_init_2 _ _, object_init_meets PySem.F.called_bool.init.lookup PySem.F.called_bool.made (by decide) prog w A.in1 _ s₁ ⟨PySem.typeIs_bool _ _, rfl, hq⟩⟩
def rBoolOwn (C : Addr) (sp : Sp) (E : XK) : List V → Hp → VK → Prop := fun zs H Q => ∃ a dx fs, zs = [V.ref a] ∧ H a = some (.ins C dx fs) ∧ sp [V.ref a] H (fun z H' => ∃ b : Bool, z = .bl b ∧ Q (.bl b) H') E
theorem call_ownBool {X : Cx} {CX : CXT} {n : Nat} {f C : Addr} {sp : Sp} {E : XK} (hm : Meth X.K C (Str.ofString "__bool__") f) (F : FnR X.prog X.w X.K X.mg X.base CX n f sp) (hr : Room (n + 2) X.A) (hx : Passes CX X E) : CallR X (.type "bool") (rBoolOwn C sp E) := by
  intro ps σ0 σ H zs us Q I r h
  obtain ⟨a, dx, fs, rfl, ha, q⟩ := h
  obtain ⟨u, rfl, ru⟩ := r.one
  cases (show u = Value.ref a from ru)
  obtain ⟨ox, od, J⟩ := ins_inst I ha
  obtain ⟨m, hF⟩ := I.fr
  have hr2 : Room n X.A.in1.in1 := (Room.in1 (show Room (n + 1) X.A.in1 from hr.in1))
  refine bool_any (PySem.W.truthy_K hF I.ok.mod.kin J hm.at_ hm.fn (wpAny_mono (wpAny_call (SlX.run_at (us := [.ref a]) (ws := [.ref a]) F hr2 I.env0.in1.in1 hx I (.cons rfl .nil) q)) (fun w s' z => ?_) fun _ _ y => y))
  obtain ⟨z', H', I', rz, b, ez, qz⟩ := z
  subst ez
  cases (show w = Value.bool b from rz)
  exact ⟨.bl b, H', I', rfl, qz⟩
/-- bool(d), d a dict -/
def rBoolD : List V → Hp → VK → Prop := fun zs H Q => ∃ (a : Addr) (kvs : List (Key × V)), zs = [V.ref a] ∧ H a = some (.dK kvs) ∧ Q (.bl (!kvs.isEmpty)) H
theorem call_boolD {X : Cx} : CallR X (.type "bool") rBoolD := by
  intro ps σ0 σ H zs us Q I r h
  obtain ⟨a, kvs, rfl, ha, q⟩ := h
  obtain ⟨u, rfl, ru⟩ := r.one
  cases (show u = Value.ref a from ru)
  exact bool_any (d_truth I (.inl ha) fun s' I' => ⟨.bl _, H, I', rfl, q⟩)
theorem c_boolD {l : List Asn} {H : Hp} {i : Nat} {a : Addr} {m : List (Str × Int)} {Q : VK} (S : Sep l H) (hi : l[i]? = some (At a (.dK (mp m)))) (q : Q (.bl (!m.isEmpty)) H) : rBoolD [.ref a] H Q := by
  refine ⟨a, _, rfl, S.at hi, ?_⟩
  have e : (mp m).isEmpty = m.isEmpty := by cases m <;> rfl
  rw [e]; exact q
theorem c_ownBool {K : PySem.W.Frag} {l : List Asn} {H : Hp} {i : Nat} {p C : Addr} {fs : List (Str × V)} {sp : Sp} {E : XK} {Q : VK} (S : Sep l H) (hi : l[i]? = some (Ob p C fs)) (q : sp [V.ref p] H (fun z H' => ∃ b : Bool, z = .bl b ∧ Q (.bl b) H') E) : rBoolOwn C sp E [.ref p] H Q := by
  obtain ⟨dx, e⟩ := ob_at S hi
  exact ⟨p, dx, fs, rfl, e, q⟩
/-- list(s), s a text -/
def signs (x : Str) : List V := x.cps.toList.map fun c => V.str ⟨#[c]⟩
theorem signs_len (x : Str) : (signs x).length = x.cps.size := by unfold signs; rw [List.length_map, Array.length_toList]
theorem vals_signs {x : Str} {acc : Array Value} (h : ItemsOf (SignAt x) acc x.cps.size) : Vals (signs x) acc.toList := by
  have e : acc.toList.length = (signs x).length := by rw [Array.length_toList, signs_len]; exact h.1
  have k : signs x = (List.range acc.toList.length).map fun j => ((signs x)[j]?).getD .non := by
    refine List.ext_getElem? fun j => ?_
    rw [List.getElem?_map]
    by_cases hj : j < (signs x).length
    · rw [List.getElem?_range (by omega)]
      rw [Option.map_some, List.getElem?_eq_getElem hj]; rfl
    · rw [List.getElem?_eq_none (by omega), List.getElem?_eq_none (by rw [List.length_range]; omega)]; rfl
  rw [k]
  refine vals_of_get acc.toList _ fun j u hj => ?_
  obtain ⟨c, t, hc, rfl⟩ := h.2 j u (by rw [← hj, Array.getElem?_toList])
  have : (signs x)[j]? = some (V.str ⟨#[c]⟩) := by
    unfold signs
    rw [List.getElem?_map, Array.getElem?_toList, hc]; rfl
  rw [this]
  exact ⟨t, rfl⟩
def rListS : List V → Hp → VK → Prop := fun zs H Q => ∃ x : Str, zs = [.str x] ∧ x.cps.size ≤ 16777216 ∧ ∀ p, H p = none → Q (.ref p) (upd H p (.lst (signs x)))
theorem call_listS {X : Cx} (hc : X.calm = true) : CallR X (.type "list") rListS := by
  intro ps σ0 σ H zs us Q I r h
  obtain ⟨x, rfl, hz, q⟩ := h
  obtain ⟨u, rfl, t, rfl⟩ := r.one
  refine call_list_str (I.ok.hd hc) x t (fun h' tk acc c' hk e' hi => ?_) (by rw [sizeLine_eq]; omega)
  refine ⟨.ref σ0.heap.objs.size, upd H σ0.heap.objs.size (.lst (signs x)), I.laid hk (Nat.le_refl _) (show ObjOk X.prog X.w _ _ _ (.lst (signs x)) from ⟨?_, acc.toList, c', vals_signs hi, ?_⟩), rfl, q _ (I.hok.fresh (Nat.le_refl _))⟩
  · rw [signs_len, sizeLine_eq]; omega
  · rw [Array.toArray_toList]; exact e'
theorem c_listS {l : List Asn} {H : Hp} {x : Str} {Q : VK} (S : Sep l H) (hz : x.cps.size ≤ 16777216) (k : ∀ p H', Sep (At p (.lst (signs x)) :: l) H' → Q (.ref p) H') : rListS [.str x] H Q := ⟨x, rfl, hz, fun p hp => k p _ (S.new hp)⟩
theorem i_LTt {K : PySem.W.Frag} {H : Hp} {Q : VK} {l : List Asn} {p : Addr} {xs : List V} {e f : Nat} {q : Addr} (S : Sep l H) (hi : l[e]? = some (Tp p xs)) (hj : l[f]? = some (Tp q [.ty "list", .ty "tuple"])) (k : Q (.bl true) H) : gIsi K [.ref p, .ref q] H Q :=
  .inr ⟨.ref p, q, [.ty "list", .ty "tuple"], .type "tuple", [.type "list", .type "tuple"], true, rfl, S.tp hj, .cons (.ty _) (.cons (.ty _) .nil), .base (.tup (S.tp hi)), (by simp [PySem.W.kitAny, kit_ty k_tl, kit_ty k_tt]), k⟩
theorem mp_at {m : List (Str × Int)} {i : Nat} {k : Key} {v : V} (h : (mp m)[i]? = some (k, v)) : ∃ w n, m[i]? = some (w, n) ∧ k = Sum.inr w ∧ v = .int n := by
  unfold mp at h
  rw [List.getElem?_map] at h
  cases e : m[i]? with
  | none => rw [e] at h; cases h
  | some x => rw [e] at h; cases h; exact ⟨x.1, x.2, rfl, rfl, rfl⟩
/-- {.. for .. in d.items() ..}, d locked meanwhile -/
theorem dcI {σ : L2.St} {H : Hp} {g : TG} {te tk tv : TE} {tt : TT} {vs : List Nat} {Q : VK} {l : List Asn} {p : Addr} {e : Nat} {kvs : List (Key × V)} (S : Sep l H) (hi : l[e]? = some (At p (.dK kvs))) (Pv : Obj → Addr → Nat → Hp → Prop) (h0 : ∀ od D H', Sep (At D (.dK []) :: l.set e (At p (.frz od (.dK kvs)))) H' → Pv od D 0 H') (hl : ∀ od D i H, Pv od D i H → H p = some (.frz od (.dK kvs)))
    (hs : ∀ od D i k v T H H', kvs[i]? = some (k, v) → Pv od D i H → H T = none → H' = upd H T (.tup [kV k, v]) → DcT g tt tk tv vs σ (.ref T) D (Pv od D (i + 1)) H') (hd : ∀ od D H, Pv od D kvs.length H → Q (.ref D) (upd H p (.dK kvs))) (hv : ∀ H', te σ H' = fun Q => Q (.ref p) H') : tLockE (tDc (iItems te) g tt tk tv vs) σ H Q := by
  refine ⟨p, .dK kvs, S.at hi, trivial, fun od => ?_⟩
  have S1 := S.upd hi (o' := .frz od (.dK kvs)) (fun _ z => nomatch z)
  show te σ _ _
  rw [hv]
  refine ⟨p, od, kvs, rfl, upd_same, fun D hD => ⟨fun i m H2 => m = kvs.length - i ∧ i ≤ kvs.length ∧ Pv od D i H2, ⟨kvs.length, by simp, Nat.zero_le _, h0 od D _ (S1.new hD)⟩, ?_⟩⟩
  rintro i m H2 ⟨rfl, hz, q⟩
  have hq := hl od D i H2 q
  by_cases hlt : i < kvs.length
  · refine .inr ⟨⟨hq, hlt⟩, Pv od D (i + 1), fun H3 q3 => ⟨kvs.length - (i + 1), by omega, rfl, hlt, q3⟩, fun x H3 y => ?_⟩
    obtain ⟨T, k, v, ek, rfl, hn, rfl⟩ := y
    exact hs od D i k v T H2 _ ek q hn rfl
  · obtain rfl : i = kvs.length := by omega
    exact .inl ⟨⟨hq, Nat.le_refl _⟩, hq, hd od D H2 q⟩
end
local macro_rules | `(tactic| walk_at "v1") => `(tactic| (first
  | ((with_reducible refine' c_ownBool (by assumption) ?hi ?_); (case hi => walk_at "has"))
  | ((with_reducible refine' c_boolD (by assumption) ?hi ?_); (case hi => walk_at "has"))
  | ((with_reducible refine' c_listS (by assumption) ?hz ?_); (case hz => decide); intro _ _ _)))

/-! str(o) by an own __str__; == and != where the right one's class goes first -/
section
open PyProof.Rows
theorem str_any {prog : Program} {w : World} {A : Around} {E : Value → Shared → Prop} {s : Shared} {v : Value} {Q : Value → Shared → Prop} (h : wpAny (model prog w) A.in1.in1 (Builtin.Str.strOf v) (fun r s₁ => ∃ x t, r = Value.str x t ∧ Q r s₁) E s) : wpAny (model prog w) A (call (.type "str") [v]) Q E s := by
  refine callType_codes (T := "str") (Bi := Builtin.«object.__init__») (Q₁ := fun r s₁ => ∃ x t, r = Value.str x t ∧ Q r s₁) PySem.F.called_str (PySem.F.typeCall_str_1 _) PySem.F.entry_object_init ?_ ?_
  · refine codeAny_of_tree ?_
    show wpAny _ A.in1.in1 (do checkBuiltinCall "str.__new__" ⟨[.type "str", v], []⟩; again (.builtin "str.__new__" ⟨[.type "str", v], []⟩)) _ _ s
    refine wpAny_bind (wpAny_of_eq (PySem.F.newCall_str_1 _) (wpAny_pure ⟨plainId_quiet (by decide +kernel) _, codeAny_builtin PySem.F.entry_str_new ?_⟩))
    rw [(Around.under_plainId (by decide +kernel) _), str_new_tree v]
    refine wpAny_bind (wpAny_pure (wpAny_bind (wpAny_of_eq isSubtype_str_str ?_)))
    refine wpAny_bind (wpAny_mono h (fun r s' hr => ?_) fun _ _ y => y)
    obtain ⟨x, t, rfl, hq⟩ := hr
    exact wpAny_pure ⟨x, t, rfl, hq⟩
  · rintro obj s₁ ⟨x, t, rfl, hq⟩
    exact ⟨typeIs_str _ _ _, PySem.F.args_object_init_2 _ _, object_init_meets PySem.F.called_str.init.lookup PySem.F.called_str.made (by decide) prog w A.in1 _ s₁ ⟨typeIs_str _ _ _, rfl, hq⟩⟩
/-- what str(o), o an instance whose class has sp for __str__, asks -/
def rStrOwn (C : Addr) (sp : Sp) (E : XK) : List V → Hp → VK → Prop := fun zs H Q => ∃ a dx fs, zs = [V.ref a] ∧ H a = some (.ins C dx fs) ∧ sp [V.ref a] H (fun z H' => ∃ y : Str, z = .str y ∧ Q z H') E
theorem call_ownStr {X : Cx} {CX : CXT} {n : Nat} {f C : Addr} {sp : Sp} {E : XK} (hm : Meth X.K C (Str.ofString "__str__") f) (F : FnR X.prog X.w X.K X.mg X.base CX n f sp) (hr : Room (n + 2) X.A) (hx : Passes CX X E) : CallR X (.type "str") (rStrOwn C sp E) := by
  intro ps σ0 σ H zs us Q I r h
  obtain ⟨a, dx, fs, rfl, ha, q⟩ := h
  obtain ⟨u, rfl, ru⟩ := r.one
  cases (show u = Value.ref a from ru)
  obtain ⟨ox, od, J⟩ := ins_inst I ha
  have hr2 : Room n X.A.in1.in1 := (Room.in1 (show Room (n + 1) X.A.in1 from hr.in1))
  refine str_any ?_
  unfold Builtin.Str.strOf
  show wpAny _ _ (if false = true then _ else _) _ _ _
  rw [if_neg Bool.false_ne_true]
  refine wpAny_bind (wpAny_cRoomFor hr2.units0 ?_)
  refine wpAny_bind (m := callSpecial? (.ref a) (Str.ofString "__str__")) (PySem.W.special_fn I.kIn J hm.at_ (beq_iff_eq.mp hm.fn) (wpAny_mono (wpAny_call (SlX.run_at (us := [.ref a]) (ws := [.ref a]) F hr2 I.env0.in1.in1 hx I (.cons rfl .nil) q)) (fun w s' z => ?_) fun _ _ y => y))
  obtain ⟨z', H', I', rz, y, ez, qz⟩ := z
  subst ez
  obtain ⟨t, rfl⟩ := (show ∃ t, w = Value.str y t from rz)
  refine wpAny_bind (wpAny_of_eq (a := some y) rfl ?_)
  exact wpAny_pure ⟨y, t, rfl, .str y, H', I', ⟨t, rfl⟩, qz⟩
section
variable {X : Cx} {CX : CXT} {n : Nat} {f : Addr} {sp : Sp} {E : XK} {K : PySem.W.Frag}
/-- o == y, f the __eq__ of o's class: o's own goes first, or that of y, of a class below -/
def rEqF (K : PySem.W.Frag) (f : Addr) (sp : Sp) (E : XK) : R2 := fun x y H Q => ∃ a C dx fs t, x = V.ref a ∧ H a = some (.ins C dx fs) ∧ Meth K C (Str.ofString "__eq__") f ∧ TyX K H y t ∧
  ((PySem.W.notFirst K C t = true ∧ sp [x, y] H Q E) ∨ ∃ b D dy gs, y = V.ref b ∧ t = .ref D ∧ H b = some (.ins D dy gs) ∧ Meth K D (Str.ofString "__eq__") f ∧ D ≠ C ∧ PySem.W.subIn K (.ref D) (.ref C) = some true ∧ sp [y, x] H Q E)
theorem op_eqF (hK : X.K = K) (F : FnR X.prog X.w X.K X.mg X.base CX n f sp) (hr : Room n X.A) (hx : Passes CX X E) : OpR X (compareOp .Eq) (rEqF K f sp E) := by
  intro ps σ0 σ H x y v u Q I rx ry h
  subst hK
  obtain ⟨a, C, dx, fs, t, rfl, ha, hm, ht, h⟩ := h
  cases (show v = Value.ref a from rx)
  obtain ⟨ox, od, J⟩ := ins_inst I ha
  obtain ⟨m, hF⟩ := I.fr
  obtain ⟨P, KX, hP, _⟩ := kit_of I ry ht
  have XK := I.ok.mod.kin.keeps hF.keep
  have hb := KX.ty (model X.prog X.w) _ XK hP
  rcases h with ⟨hs, q⟩ | ⟨b, D, dy, gs, rfl, rfl, hb2, hm2, hne, hs, q⟩
  · show wpAny _ _ (richCompare .Eq (.ref a) u) _ _ _
    refine PySem.W.cmp_K (op := .Eq) (tb := t) hr.units0 hF I.ok.mod.kin J hb hs hm.at_ hm.fn ?_
    refine wpAny_mono (wpAny_call (run_fnR (us := [.ref a, u]) (vs := [.ref a, y]) F hr hx I (.cons rfl (.cons ry .nil)) q)) (fun w s' z => ?_) fun _ _ e => e
    obtain ⟨z', H', I', rz, qz⟩ := z
    exact SlX.cmpback rz ⟨z', H', I', rz, qz⟩
  · cases (show u = Value.ref b from ry)
    obtain ⟨oy, ody, Jy⟩ := ins_inst I hb2
    have one : wpAny (model X.prog X.w) X.A (tryCompare (.ref b) "__eq__" (.ref a)) (fun r s' => ∃ w, r = some w ∧ EP X ps σ Q w s') X.xe σ0 := by
      unfold tryCompare
      refine wpAny_bind (PySem.W.ifBound_K XK Jy hm2.at_ hm2.fn (wpAny_mono (wpAny_call (run_fnR (us := [.ref b, .ref a]) (vs := [.ref b, .ref a]) F hr hx I (.cons rfl (.cons rfl .nil)) q)) (fun w s' z => ?_) fun _ _ e => e))
      obtain ⟨z', H', I', rz, qz⟩ := z
      have e := SlX.cmpback (P := fun w s' => EP X ps σ Q w s') rz ⟨z', H', I', rz, qz⟩
      cases w <;> first | exact e.elim | exact wpAny_pure ⟨_, rfl, e⟩
    show wpAny _ _ (richCompare .Eq (.ref a) (.ref b)) _ _ _
    unfold richCompare
    simp only [oneThing_ref]
    refine wpAny_holding (wpAny_bind (wpAny_cRoomFor hr.units0 ?_))
    refine wpAny_bind (J.type.here (wpAny_bind (hb.here ?_)))
    have hd : ((Value.ref C : Value) != .ref D) = true := by simp [bne_iff_ne]; exact fun z => hne z.symm
    rw [if_pos hd]
    refine wpAny_bind ((PySem.W.looks_subIn XK hs).here ?_)
    rw [if_pos rfl]
    refine wpAny_bind (m := tryCompare (.ref b) _ (.ref a)) (wpAny_mono one (fun r s' z => ?_) fun _ _ e => e)
    obtain ⟨w, rfl, ep⟩ := z
    exact wpAny_bind (wpAny_rule (wpAny_pure ep))
structure NeC (K : PySem.W.Frag) (C : Addr) : Prop where
  ne : PySem.W.findIn K (.ref C) "__ne__" = some (some (.builtin "object.__ne__"))
  ob : PySem.W.mroIn K C (.type "object") = some true
/-- o.__ne__(y), by an own __eq__ -/
theorem one_ne {C a : Addr} {u : Value} {y : V} {ox : Obj} {od : Option Obj} {ps : List (Addr × Obj)} {σ : L2.St} {H : Hp} {s : Shared} {Q : VK} (I : Inv X ps σ H s) (J : PySem.W.InstAt s.heap a ox C od) (N : NeC X.K C) (hm : Meth X.K C (Str.ofString "__eq__") f) (F : FnR X.prog X.w X.K X.mg X.base CX n f sp) (hr : Room (n + 1) X.A) (hu : X.A.units + 64 < cLine) (hx : Passes CX X E) (ry : RelV y u)
    (q : sp [.ref a, y] H (fun z H' => ∃ c : Bool, z = .bl c ∧ Q (.bl (!c)) H') E) : wpAny (model X.prog X.w) X.A (tryCompare (.ref a) "__ne__" u) (fun r s' => ∃ w, r = some w ∧ EP X ps σ Q w s') X.xe s := by
  obtain ⟨m, hF⟩ := I.fr
  have XK := I.ok.mod.kin.keeps hF.keep
  have entry : wpAny (model X.prog X.w) X.A.in1 (Builtin.«object.__ne__» ⟨[.ref a, u], []⟩) (fun r s' => ∃ w, r = .done (.ret w) ∧ (w ≠ .notImplemented ∧ EP X ps σ Q w s')) X.xe s := by
    unfold Builtin.«object.__ne__»
    repeat (first
      | with_reducible refine wpAny_cRoomFor (show X.A.in1.units < cLine by show X.A.units + 1 < cLine; omega) ?_
      | (refine wpAny_bind (m := callSpecialIfBound? (.ref a) (Str.ofString "__eq__") [u]) (PySem.W.ifBound_K XK J hm.at_ hm.fn
          (wpAny_mono (wpAny_call (SlX.run_at (us := [.ref a, u]) (ws := [.ref a, y]) F (show Room n X.A.in1 from Room.in1 hr) I.env0.in1 hx I (.cons rfl (.cons ry .nil)) q)) (fun w s' z => by
            obtain ⟨z', H', I', rz, c, ez, qz⟩ := z
            subst ez
            cases (show w = Value.bool c from rz)
            repeat (first | exact ⟨_, rfl, nofun, .bl (!c), H', I', rfl, qz⟩ | exact wpAny_pure ⟨_, rfl, nofun, .bl (!c), H', I', rfl, qz⟩ | (refine wpAny_bind (m := truthy (.bool _)) (wpAny_truthy_bool ?_)) | wp_step)) fun _ _ e => e)))
      | wp_step)
  unfold tryCompare
  refine wpAny_bind (ifBound_objNe XK J N.ne ?_)
  refine wpAny_call (codeAny_call_builtin PySem.F.cmp_object.ne.plain PySem.F.cmpEntry_ne (PySem.W.check_slot PySem.F.cmpKind_ne PySem.F.cmpSplit_ne (J.type.andThen (PySem.W.looks_mroIn XK N.ob)) (PySem.F.cmpArgs_ne _ _) (wpAny_mono entry (fun r s' z => ?_) fun _ _ e => e)))
  obtain ⟨w, rfl, hw, ep⟩ := z
  cases w <;> first | exact (hw rfl).elim | exact wpAny_pure ⟨_, rfl, ep⟩
def rNeF (K : PySem.W.Frag) (f : Addr) (sp : Sp) (E : XK) : R2 := fun x y H Q => ∃ a C dx fs t, x = V.ref a ∧ H a = some (.ins C dx fs) ∧ Meth K C (Str.ofString "__eq__") f ∧ NeC K C ∧ TyX K H y t ∧
  ((PySem.W.notFirst K C t = true ∧ sp [x, y] H (fun z H' => ∃ c : Bool, z = .bl c ∧ Q (.bl (!c)) H') E) ∨ ∃ b D dy gs, y = V.ref b ∧ t = .ref D ∧ H b = some (.ins D dy gs) ∧ Meth K D (Str.ofString "__eq__") f ∧ NeC K D ∧ D ≠ C ∧ PySem.W.subIn K (.ref D) (.ref C) = some true ∧ sp [y, x] H (fun z H' => ∃ c : Bool, z = .bl c ∧ Q (.bl (!c)) H') E)
theorem op_neF (hK : X.K = K) (F : FnR X.prog X.w X.K X.mg X.base CX n f sp) (hr : Room (n + 1) X.A) (hu : X.A.units + 64 < cLine) (hx : Passes CX X E) : OpR X (compareOp .NotEq) (rNeF K f sp E) := by
  intro ps σ0 σ H x y v u Q I rx ry h
  subst hK
  obtain ⟨a, C, dx, fs, t, rfl, ha, hm, hN, ht, h⟩ := h
  cases (show v = Value.ref a from rx)
  obtain ⟨ox, od, J⟩ := ins_inst I ha
  obtain ⟨m, hF⟩ := I.fr
  obtain ⟨P, KX, hP, _⟩ := kit_of I ry ht
  have XK := I.ok.mod.kin.keeps hF.keep
  have hb := KX.ty (model X.prog X.w) _ XK hP
  show wpAny _ _ (richCompare .NotEq (.ref a) u) _ _ _
  unfold richCompare
  simp only [oneThing_ref]
  refine wpAny_holding (wpAny_bind (wpAny_cRoomFor (by omega) ?_))
  refine wpAny_bind (J.type.here (wpAny_bind (hb.here ?_)))
  rcases h with ⟨hs, q⟩ | ⟨b, D, dy, gs, rfl, rfl, hb2, hm2, hN2, hne, hs, q⟩
  · have one := one_ne I J hN hm F hr hu hx ry q
    split
    · rename_i c
      have e : PySem.W.subIn X.K t (.ref C) = some false := by
        rcases Bool.or_eq_true_iff.mp hs with e | e
        · rw [beq_iff_eq.mp e] at c; simp at c
        · exact beq_iff_eq.mp e
      refine wpAny_bind ((PySem.W.looks_subIn XK e).here ?_)
      simp only [Bool.false_eq_true, if_false]
      refine wpAny_bind (m := tryCompare (.ref a) _ u) (wpAny_mono one (fun r s' z => ?_) fun _ _ e => e)
      obtain ⟨w, rfl, ep⟩ := z
      exact wpAny_pure ep
    · refine wpAny_bind (wpAny_pure ?_)
      simp only [Bool.false_eq_true, if_false]
      refine wpAny_bind (m := tryCompare (.ref a) _ u) (wpAny_mono one (fun r s' z => ?_) fun _ _ e => e)
      obtain ⟨w, rfl, ep⟩ := z
      exact wpAny_pure ep
  · cases (show u = Value.ref b from ry)
    obtain ⟨oy, ody, Jy⟩ := ins_inst I hb2
    have one := one_ne (u := .ref a) (y := .ref a) I Jy hN2 hm2 F hr hu hx rfl q
    have hd : ((Value.ref C : Value) != .ref D) = true := by simp [bne_iff_ne]; exact fun z => hne z.symm
    rw [if_pos hd]
    refine wpAny_bind ((PySem.W.looks_subIn XK hs).here ?_)
    rw [if_pos rfl]
    refine wpAny_bind (m := tryCompare (.ref b) _ (.ref a)) (wpAny_mono one (fun r s' z => ?_) fun _ _ e => e)
    obtain ⟨w, rfl, ep⟩ := z
    exact wpAny_bind (wpAny_rule (wpAny_pure ep))
end

end
/-! own errors with one field, over any built-in base -/
section
open PyProof.Rows
structure OexB (K : PySem.W.Frag) (C : Addr) : Prop where
  ex : ∃ (B newId initId : String) (bm : List Value), ExcBaseFacts B newId initId bm ∧ (∀ v : Value, refuseLoop v "__setattr__" bm = pure ()) ∧ bm.contains (.type "object") = true ∧
    ∃ nm q N bs sn sub ab col dd k0 k1 k2 k3 k5, K.lookup C = some (excClassObj nm q C N bs bm true sn sub ab col dd k0 k1 k2 k3 k5 newId)
  sa : PySem.W.findIn K (.ref C) "__setattr__" = some (some (.builtin "object.__setattr__"))
  exC : PySem.W.subIn K (.ref C) (.type "BaseException") = some true
  tyC : PySem.W.typeIn K (.ref C) = some (.type "type")
  kC : PySem.W.keepIn K (.ref C) = true
theorem pass_ZD : ∀ v : Value, refuseLoop v "__setattr__" [.type "ZeroDivisionError", .type "ArithmeticError", .type "Exception", .type "BaseException", .type "object"] = pure () := fun v => by kernel_rfl
theorem pass_LE : ∀ v : Value, refuseLoop v "__setattr__" [.type "LookupError", .type "Exception", .type "BaseException", .type "object"] = pure () := fun v => by kernel_rfl
theorem pass_RE : ∀ v : Value, refuseLoop v "__setattr__" [.type "RuntimeError", .type "Exception", .type "BaseException", .type "object"] = pure () := fun v => by kernel_rfl
section
open Builtin Builtin.ObjectAttr PySem.W PySem.HandSPX
theorem exb_set {prog : Program} {w : World} {A : Around} {R : Result → Shared → Prop} {h0 : Heap} {g0 : Array GenState} {d0 : Drawn} {t0 : Nat} {o0 : OsState} {K : Frag} {fld : Str} {tk : Tok} {u : Value} {e C : Addr} {fv : Array Value} {cd : ClassData} {bm : List Value}
    (KX : K.In h0) (he : h0.get? e = some { cls := .ref C, data := .fields fv }) (hcd : clsIn K C = some cd) (hm : cd.mro = .ref C :: bm) (pass : ∀ v : Value, refuseLoop v "__setattr__" bm = pure ()) (hob : bm.contains (.type "object") = true) (hh : cd.hasDict = true) (hno : findIn K (.ref C) fld = some none)
    (k : ∀ h1 t1 dx, (∀ b o, b ≠ e → h0.get? b = some o → h1.get? b = some o) → h0.objs.size ≤ dx → dx ≠ e → h1.get? e = some { cls := .ref C, dict := some dx, data := .fields fv } →
      h1.Ns1 dx (fun y => if y = fld then some u else none) → R (.ok (.ret .none)) ⟨h1, g0, d0, t1, o0⟩) :
    codeAny (model prog w) A (.call (.builtin "object.__setattr__") ⟨[.ref e, .str fld tk, u], []⟩) R ⟨h0, g0, d0, t0, o0⟩ := by
  have J : InstAt h0 e { cls := .ref C, data := .fields fv } C none := ⟨he, rfl, rfl, trivial⟩
  have SO := PySem.F.store_object
  have hob2 : cd.mro.contains (.type "object") = true := by rw [hm, List.contains_cons, hob, Bool.or_true]
  have ne2 : cd.mro.isEmpty = false := by rw [hm]; rfl
  have hes : e ≠ h0.objs.size := Nat.ne_of_lt (Heap.lt_size he)
  have subE : Looks (model prog w) h0 (isInstance (.ref e) (.type "object")) true := J.type.andThen (looks_mroIn KX (by unfold mroIn; rw [hcd, Option.bind_some, if_neg (by rw [ne2]; decide), hob2]))
  refine codeAny_call_builtin SO.slot.plain SO.entry (@check_slot (model prog w) _ _ ⟨h0, g0, d0, t0, o0⟩ "object.__setattr__" "object" "__setattr__" (.ref e) [.str fld tk, u] [] _ SO.kind SO.split subE (SO.args (.ref e) (.str fld tk) u) ?_)
  have mroE : Looks (model prog w) h0 (mroOf (.ref C)) cd.mro := (looks_clsIn KX hcd).andThen .now
  have takE : Looks (model prog w) h0 (storeTaker? none) none := .now
  have clsE : Looks (model prog w) h0 (classData C) cd := looks_clsIn KX hcd
  rw [osa_eq, refuse_eq]
  refine wpAny_bind (wpAny_bind (J.type.at (wpAny_bind (mroE.at ?_))))
  rw [hm, refuseLoop_ref, pass]
  refine wpAny_pure (wpAny_bind (J.type.at (wpAny_bind ((looks_findIn KX hno).at (wpAny_bind (takE.at ?_))))))
  show wpAny _ _ (storeInOwnDict (.ref e) (.ref C) (.str fld tk) fld u false) _ _ _
  obtain ⟨c1, c2, c3, c4, c5, c6, c7, c8, c9, c10, c11⟩ := cd
  dsimp only at hh
  subst hh
  unfold storeInOwnDict; unfold ownDictForStores
  repeat (first | with_reducible refine store_in_new ?_ ?_ | with_reducible refine wpAny_loadPart_at he ?_ | with_reducible refine clsE.at ?_ | wp_step)
  · exact ⟨_, #[], _, (Heap.get?_update_ne _ _ _ _ hes.symm).trans (Heap.get?_push_at rfl rfl), rfl, fun e he => absurd he (by simp), fun _ => rfl⟩
  · intro h1 t1 hn1 hs1
    have he1 : (h0.push { cls := .type "dict", data := .dict #[] }).get? e = some { cls := .ref C, data := .fields fv } := Heap.get?_push_of_some _ he
    refine k h1 t1 h0.objs.size (fun b o hb ho => ?_) (Nat.le_refl _) hes.symm ?_ hn1
    · exact (hs1.2 b (Nat.ne_of_lt (Heap.lt_size ho))).trans ((Heap.get?_update_ne _ _ _ _ hb).trans (Heap.get?_push_of_some _ ho))
    · exact (hs1.2 e hes).trans (Heap.get?_update_self _ he1 rfl)
end
section
variable {X : Cx} {ps : List (Addr × Obj)} {σ : L2.St} {H : Hp} {s : Shared} {a C : Addr} {f : Str} {y : V} {u : Value} {Q : Unit → Shared → Prop} {E : Value → Shared → Prop} {A : Around}
/-- self.f = y of such an error, its only field -/
theorem exb_put (T : OexB X.K C) (I : Inv X ps σ H s) (e : H a = some (exo a C none)) (hno : PySem.W.findIn X.K (.ref C) f = some none) (ry : RelV y u)
    (h : ∀ dx s', H dx = none → dx ≠ a → Inv X ps σ (upd (upd H dx (exd dx [(f, y)])) a (exo a C (some dx))) s' → Q () s') : wpAny (model X.prog X.w) A (setAttr (.ref a) f u) Q E s := by
  obtain ⟨B, n1, n2, bm, FB, pass, hob, nm, q, N, bs, sn, sub, ab, col, dd, k0, k1, k2, k3, k5, hC⟩ := T.ex
  have hcl : PySem.W.clsIn X.K C = some { name := nm, bases := bs, mro := .ref C :: bm, ns := N, qualname := q, hasDict := true, slotNames := sn, subclasses := sub, abstract := ab, collection := col, hasDel := false } := by
    unfold PySem.W.clsIn; rw [hC]
  obtain ⟨tt, ho⟩ := exo_at I.hok e
  obtain ⟨h0, g0, d0, t0, o0⟩ := s
  refine PySem.W.set_plain I.kIn (ox := { cls := .ref C, dict := none, data := .fields #[.ref tt, .none, .none, .none, .bool false, .none] }) (od := none) ⟨ho, rfl, rfl, trivial⟩ T.sa ?_
  refine exb_set I.kIn ho hcl rfl pass hob rfl hno (fun h1 tk1 dx kp dn dne hx hn => ?_)
  have fr : H dx = none := I.hok.fresh dn
  have nd : ∀ {b : Addr} {o : Obj}, h0.get? b = some o → b ≠ dx := fun {b o} z => Nat.ne_of_lt (Nat.lt_of_lt_of_le (Heap.lt_size z) dn)
  have na : ∀ {b : Addr}, H b = none → b ≠ a := fun {b} n z => by rw [z, e] at n; cases n
  have U : Un X.fs [] H (upd (upd H dx (exd dx [(f, y)])) a (exo a C (some dx))) h0 h1 := {
    keep := fun b o z n _ _ => kp b o (na n) z
    slot := fun b o z n _ _ => ⟨o.slots, kp b o (na n) z⟩
    free := fun b o z n _ => by rw [upd_ne (na n), upd_ne (nd z)]; exact n
    there := fun b o z _ => by
      by_cases hb : b = a
      · exact ⟨_, by rw [hb]; exact hx⟩
      · exact ⟨o, kp b o hb z⟩
    tups := fun b xs z => by rw [upd_ne (at_ne e z exo_tup), upd_ne (ne_of_none z fr)]; exact z
    frzs := fun b o v z => by rw [upd_ne (at_ne e z exo_frz), upd_ne (ne_of_none z fr)]; exact z
    tbls := fun b ps z => ⟨#[], by rw [upd_ne (at_ne e z exo_tbl), upd_ne (ne_of_none z fr), z]; simp⟩ }
  refine h dx _ fr dne (I.un (t' := tk1) U fun b o z => ?_)
  by_cases hb : b = a
  · subst hb
    rw [upd_same] at z
    cases z
    exact exo_ok hx
  · rw [upd_ne hb] at z
    by_cases hd : b = dx
    · subst hd
      rw [upd_same] at z
      cases z
      exact exd_ok hn (relO_put (fs := []) ry fun g => True.intro)
    · rw [upd_ne hd] at z
      exact (I.hok b o z).stay (fun c v hc w => kp c v (by
          rcases hc with hc | hc
          · rw [hc]; exact hb
          · exact at_ne e hc exo_own) w)
        (fun c hc => by rw [upd_ne (at_ne e hc exo_own), upd_ne (ne_of_none hc fr)]; exact hc) (fun c xs hc => by rw [upd_ne (at_ne e hc exo_tup), upd_ne (ne_of_none hc fr)]; exact hc)
end
def tOstB (K : PySem.W.Frag) (f : Str) (to te : TE) : TS := fun D σ H => te σ H fun y H1 => to σ H1 fun x H2 => ∃ a C : Addr, x = .ref a ∧ OexB K C ∧ PySem.W.findIn K (.ref C) f = some none ∧ H2 a = some (exo a C none) ∧ ∀ dx, H2 dx = none → dx ≠ a → D.nx σ (upd (upd H2 dx (exd dx [(f, y)])) a (exo a C (some dx)))
theorem ps_gOstB {X : Cx} {K : PySem.W.Frag} {o e : Expr} {f : Str} {to te : TE} {p' pos : Pos} (hK : X.K = K) (ho : PE X o to) (he : PE X e te) (hs : swapsWith e (some (.Attribute o f p')) pos.line X.env = pure false := by rfl) : PS X (.Assign [.Attribute o f p'] e pos) (tOstB K f to te) := by
  subst hK
  refine ⟨fun ps s0 σ H D I h => ?_⟩
  refine plainObj_wpAny_Assign_Attribute (thn (he.run ps s0 σ H _ I h) fun v s1 hv => thn (ho.run ps s1 σ hv.choose_spec.choose _ hv.choose_spec.choose_spec.1 hv.choose_spec.choose_spec.2.2) fun u s2 hu => ?_) hs
  obtain ⟨x, H2, I2, r2, a, C, ex, T, hno, ea, q⟩ := hu
  subst ex
  obtain rfl : u = Value.ref a := r2
  exact exb_put T I2 ea hno hv.choose_spec.choose_spec.2.1 fun dx s' n ne J => ⟨σ, _, J, q dx n ne⟩
theorem r_ostB {K : PySem.W.Frag} {f : Str} {to te : TE} {σ : L2.St} {H : Hp} {nx bk ct : L2.St → Hp → Prop} {rt : VK} (q : te σ H fun y H1 => to σ H1 fun x H2 => ∃ a C : Addr, x = .ref a ∧ OexB K C ∧ PySem.W.findIn K (.ref C) f = some none ∧ H2 a = some (exo a C none) ∧ ∀ dx, H2 dx = none → dx ≠ a → nx σ (upd (upd H2 dx (exd dx [(f, y)])) a (exo a C (some dx)))) : tOstB K f to te ⟨nx, rt, bk, ct⟩ σ H := q
/-- __init__ of such an error -/
def sp_exb (K : PySem.W.Frag) (f : Str) : Sp := fun vs H Q _ => ∃ (a C : Addr) (x : V), vs = [.ref a, x] ∧ OexB K C ∧ PySem.W.findIn K (.ref C) f = some none ∧ H a = some (exo a C none) ∧
  ∀ dx, H dx = none → dx ≠ a → Q .non (upd (upd H dx (exd dx [(f, x)])) a (exo a C (some dx)))
theorem pmk_exb {X : Cx} {CX : CXT} {x : Str} {C fI : Addr} {k : Nat} {fd : FuncData} {ns : List Str} {sp : Sp} {e : Expr} {es : List Expr} {ta : TA} {p pos : Pos} (T : OexB X.K C) (iC : PySem.W.findIn X.K (.ref C) "__init__" = some (some (.ref fI))) (tI : PySem.W.typeIn X.K (.ref fI) = some (.type "function"))
    (F1 : FnOk X.prog X.w X.K X.mg X.base CX k fI fd ns sp) (hr : Room (k + 1) X.A) (hb : Binds X.K fd ns []) (hx : Passes CX X (fun _ _ _ => False)) (hg : Gl X x) (hm : X.mg x = some (.ref C)) (ha : PA X (e :: es) ta)
    (hdb : (x == ("__debug__" : Str)) = false := by decide) (he : starEach (e :: es) X.env = (false, eval e X.env) :: starEach es X.env := by rfl) (hpl : (backTo pos (starEach es X.env)).any (·.1) = false := by rfl) : PMk X (.Call (.Name x p) (e :: es) [] pos) (tMkO C sp [] ta) := by
  intro ps s0 σ H Q I h
  obtain ⟨B, n1, n2, bm, FB, pass, hob, nm, q, N, bs, sn, sub, ab, col, dd, k0, k1, k2, k3, k5, hC⟩ := T.ex
  refine wpAny_Call_Name_kw (ld_glob I hg hm ?_ hdb)
  refine PySem.W.callWith_K (h₀ := X.base) I.ok.mod.kin T.kC (thn (ha.run pos ps s0 σ H _ I h) fun us s1 hu => ⟨hu.choose_spec.choose_spec.1.kIn, ?_⟩) he hpl
  obtain ⟨vs, H1, I1, r1, hz, q1⟩ := hu
  show wpAny _ _ (call (.ref C) us) _ _ _
  obtain ⟨h0, g0, d0, t0, o0⟩ := s1
  have lz : h0.objs.size ≤ h0.objs.size + 1 := Nat.le_succ _
  have hn : H1 (h0.objs.size + 1) = none := I1.hok.fresh lz
  have hq := q1 (h0.objs.size + 1) hn
  rw [List.append_nil] at hq
  have kk : ∀ b o, h0.get? b = some o → ((h0.push (PySem.W.kdv_tup us)).push (PySem.HandSPX.excO C h0.objs.size)).get? b = some o := fun b o z => Heap.get?_push_of_some _ (Heap.get?_push_of_some _ z)
  have hget : ((h0.push (PySem.W.kdv_tup us)).push (PySem.HandSPX.excO C h0.objs.size)).get? (h0.objs.size + 1) = some (PySem.HandSPX.excO C h0.objs.size) := by heap_get
  have I2 : Inv X ps σ (upd H1 (h0.objs.size + 1) (exo (h0.objs.size + 1) C none)) ⟨(h0.push (PySem.W.kdv_tup us)).push (PySem.HandSPX.excO C h0.objs.size), g0, d0, t0, o0⟩ :=
    I1.laid (t' := t0) (a := h0.objs.size + 1) (o := exo (h0.objs.size + 1) C none) (h' := (h0.push (PySem.W.kdv_tup us)).push (PySem.HandSPX.excO C h0.objs.size)) kk lz (exo_ok hget)
  have r2 : Vals (V.ref (h0.objs.size + 1) :: vs) (Value.ref (h0.objs.size + 1) :: us) := .cons rfl r1
  have hl : (Value.ref (h0.objs.size + 1) :: us).length = ns.length := by
    have z := r2.length
    rw [F1.len _ _ _ _ hq] at z
    exact z.symm
  have hus : us.length ≤ sizeLine := by
    rw [← Paired.length r1, sizeLine_eq]; omega
  have hb2 := hb ⟨(h0.push (PySem.W.kdv_tup us)).push (PySem.HandSPX.excO C h0.objs.size), g0, d0, t0, o0⟩ (Value.ref (h0.objs.size + 1) :: us) I2.kIn (by rw [List.append_nil]; exact hl)
  rw [List.append_nil] at hb2
  refine wpAny_call (PySem.HandSPX.call_own FB (fun _ => rfl) (I1.kIn _ _ hC) (PySem.W.looks_findIn I1.kIn iC) (fun self => PySem.W.bind_fn I1.kIn self tI) hus
    (codeAny_mono (F1.run _ X.stack _ _ ⟨Value.ref (h0.objs.size + 1) :: us, []⟩ (Value.ref (h0.objs.size + 1) :: us) _ _ (fun _ _ _ => False) (hr.make C us []) (I2.env0.make C us []) hb2 r2 hq) fun r s' hq' => ?_))
  match r, hq' with
  | .error er, hq' => exact hx ps σ _ _ er s' I2 hq'
  | .ok (.ret u), hq' =>
    obtain ⟨v, H2, os2, bare2, un2, hok2, rv, ev, d, fs, ea, ed, hd1, q2⟩ := hq'
    subst ev
    obtain ⟨h2, g2, d2, t2, os'⟩ := s'
    exact ⟨rv, mk_end (raises_own T.exC T.tyC) I1 lz kk un2 hok2 os2 bare2 ea ed hd1 q2⟩
  | .ok .next, hq' => exact hq'.elim
  | .ok .brk, hq' => exact hq'.elim
  | .ok .cont, hq' => exact hq'.elim
theorem mk_exb {K : PySem.W.Frag} {l : List Asn} {H : Hp} {C : Addr} {f : Str} {x : V} {Q : XK} (S : Sep l H) (T : OexB K C) (hno : PySem.W.findIn K (.ref C) f = some none) (k : ∀ d H', Sep (At d (.xd [(f, x)]) :: l) H' → Q (.ref C) (some d) H') : gMkO C (sp_exb K f) [] [x] H Q := by
  unfold gMkO
  refine ⟨by show 1 ≤ 1000; decide, fun a ha => ⟨a, C, x, rfl, T, hno, upd_same, fun dx hdx hne => ⟨rfl, dx, [(f, x)], upd_same, by rw [upd_ne hne]; exact upd_same, ?_, ?_⟩⟩⟩
  · rw [upd_ne hne] at hdx; exact hdx
  · have hd1 : H dx = none := by rw [upd_ne hne] at hdx; exact hdx
    refine k dx _ (S.ext1 (fun b o e => ?_) hd1 upd_same)
    have hb : b ≠ dx := fun z => by rw [z, hd1] at e; cases e
    have hba : b ≠ a := fun z => by rw [z, ha] at e; cases e
    rw [upd_ne hb, del_ne hba, upd_ne hba, upd_ne hb, upd_ne hba]
    exact e
/-- a test that is a value's truth -/
def tTrR (r : V → Hp → (Bool → Hp → Prop) → Prop) (ta : TE) : TT := fun σ H Q => ta σ H fun x H1 => r x H1 Q
theorem pt_truthR {X : Cx} {a : Expr} {ta : TE} {r : V → Hp → (Bool → Hp → Prop) → Prop} (ha : PE X a ta) (hr : TruR X r) (he : ∀ whole, isTrue a X.env whole = (do let v ← whole; standAt a.pos; holding [v] (truthy v))) : PT X a (tTrR r ta) := by
  refine ⟨fun ps s0 σ H Q I h => isTrue_plain (thn (ha.run ps s0 σ H _ I h) fun v s1 hv => ?_) (he _)⟩
  obtain ⟨x, H1, I1, r1, q1⟩ := hv
  exact hr ps s1 σ H1 x v Q I1 r1 q1
theorem r_trR {σ : L2.St} {H : Hp} {ta : TE} {r : V → Hp → (Bool → Hp → Prop) → Prop} {Q : Bool → Hp → Prop} (q : ta σ H fun x H1 => r x H1 Q) : tTrR r ta σ H Q := q
/-- a call within a try: its wish may speak of the slots -/
theorem run_fnS {X : Cx} {CX : CXT} {k : Nat} {f : Addr} {sp : Sp} {E : XK} {Q : VK} {us : List Value} {vs : List V} {ps : List (Addr × Obj)} {σ : L2.St} {H : Hp} {s : Shared} (F : FnR X.prog X.w X.K X.mg X.base CX k f sp) (hr : Room k X.A) (hx : PassesAt CX X σ E) (I : Inv X ps σ H s) (r : Vals vs us) (h : sp vs H Q E) :
    codeAny (model X.prog X.w) X.A (.call (.ref f) ⟨us, []⟩) (fun r s' => match r with | .ok (.ret v) => EP X ps σ Q v s' | .ok _ => False | .error e => X.xe e s') s := by
  refine codeAny_mono (F X.A X.stack s H us vs Q E hr I.env0 r h) fun r s' hq => ?_
  match r, hq with
  | .error e, hq => exact hx ps H s e s' I hq
  | .ok (.ret u), hq => exact I.after hq
  | .ok .next, hq => exact hq.elim
  | .ok .brk, hq => exact hq.elim
  | .ok .cont, hq => exact hq.elim
/-- a op b, own, within a try -/
def tOpS (C : Addr) (sp : Sp) (E : L2.St → XK) (ta tb : TE) : TE := fun σ H Q => ta σ H fun x H1 => tb σ H1 fun y H2 => rBinOwn C sp (E σ) x y H2 Q
theorem pe_opS {X : Cx} {CX : CXT} {n : Nat} {f C : Addr} {sp : Sp} {E : L2.St → XK} {op : Operator} {a b : Expr} {ta tb : TE} {pos : Pos} (hm : Meth X.K C (PySem.dunder op.info.2) f) (hs : PySem.W.selfFirst X.K C = true) (F : FnR X.prog X.w X.K X.mg X.base CX n f sp) (hr : Room n X.A) (hx : ∀ σ, PassesAt CX X σ (E σ)) (ha : PE X a ta) (hb : PE X b tb) : PE X (.BinOp a op b pos) (tOpS C sp E ta tb) := by
  refine ⟨fun ps s0 σ H Q I h => wpAny_BinOp (binT ha hb I h fun v u s2 x y H2 I2 rx ry q => ?_)⟩
  obtain ⟨p, dx, fs, p2, dy, gs, rfl, rfl, h1, h2, q⟩ := q
  cases (show v = Value.ref p from rx)
  cases (show u = Value.ref p2 from ry)
  obtain ⟨ox, od, J⟩ := ins_inst I2 h1
  obtain ⟨oy, ody, J2⟩ := ins_inst I2 h2
  obtain ⟨m, hF⟩ := I2.fr
  refine PySem.W.binop_K hF I2.ok.mod.kin J J2.type hs hm.at_ hm.fn ?_
  refine wpAny_mono (wpAny_call (run_fnS (us := [.ref p, .ref p2]) (vs := [.ref p, .ref p2]) F hr (hx σ) I2 (.cons rfl (.cons rfl .nil)) q)) (fun w s' z => ?_) fun _ _ y => y
  obtain ⟨z', H', I', rz, qz⟩ := z
  exact SlX.cmpback rz ⟨z', H', I', rz, qz⟩
theorem r_opS {C : Addr} {sp : Sp} {E : L2.St → XK} {ta tb : TE} {σ : L2.St} {H : Hp} {Q : VK} (q : ta σ H fun x H1 => tb σ H1 fun y H2 => rBinOwn C sp (E σ) x y H2 Q) : tOpS C sp E ta tb σ H Q := q
end
local macro_rules | `(tactic| walk_at "v1") => `(tactic| (first
  | with_reducible refine r_trR ?_
  | with_reducible refine r_opS ?_))
local macro_rules | `(tactic| walk_at "v1") => `(tactic| with_reducible refine r_ostB ?_)

/-! methods of built-in values within a try -/
section
open PyProof.Rows
theorem pe_gBm {X : Cx} {K : PySem.W.Frag} {o e : Expr} {es : List Expr} {to : TE} {t : TA} {name : Str} {apos cpos : Pos} {T id : String} {r : V → List V → Hp → VK → Prop} (hK : X.K = K) (pa : PlainAttrs T) (slot : Slot T name id) (hty : typeOf (.builtin id) = pure (.type "method_descriptor")) (hm : MtR X id r) (ho : PE X o to) (ha : PA X (e :: es) t)
    (hbase : attributeBase o name X.env (eval o X.env) = eval o X.env := by rfl)
    (hfew : ((backTo cpos (starEach (e :: es) X.env)).all (fun x => !x.1) && (backToKw cpos (keywordEach [] X.env)).all (fun x => x.1.isSome)
      && decide ((e :: es).length + ([] : List Keyword).length + (if ([] : List Keyword).isEmpty then 0 else 1) < 30)) = true := by rfl)
    (hline : (apos.endLine == cpos.line) = true := by rfl) (hs : starEach (e :: es) X.env = (false, eval e X.env) :: starEach es X.env := by rfl) (hplain : (backTo cpos (starEach es X.env)).any (·.1) = false := by rfl) :
    PE X (.Call (.Attribute o name apos) (e :: es) [] cpos) (tBM K T r to t) := by
  subst hK
  exact pe_bm pa slot hty hm ho ha hbase hfew hline hs hplain
theorem pe_gBm0 {X : Cx} {K : PySem.W.Frag} {o : Expr} {to : TE} {name : Str} {apos cpos : Pos} {T id : String} {r : V → List V → Hp → VK → Prop} (hK : X.K = K) (pa : PlainAttrs T) (slot : Slot T name id) (hty : typeOf (.builtin id) = pure (.type "method_descriptor")) (hm : MtR X id r) (ho : PE X o to)
    (hbase : attributeBase o name X.env (eval o X.env) = eval o X.env := by rfl) (hline : (apos.endLine == cpos.line) = true := by rfl) : PE X (.Call (.Attribute o name apos) [] [] cpos) (tBM0 K T r to) := by
  subst hK
  exact pe_bm0 pa slot hty hm ho hbase hline
/-- not e as a value, by the truth of an own object -/
def tNotR (r : V → Hp → (Bool → Hp → Prop) → Prop) (ta : TE) : TE := fun σ H Q => ta σ H fun x H1 => r x H1 fun b H2 => Q (.bl (!b)) H2
theorem pe_notR {X : Cx} {a : Expr} {ta : TE} {pos : Pos} {r : V → Hp → (Bool → Hp → Prop) → Prop} (ha : PE X a ta) (hr : TruR X r) : PE X (.UnaryOp .Not a pos) (tNotR r ta) := by
  refine ⟨fun pins s σ H Q I h => ?_⟩
  refine UnaryOp_ (thn (ha.run pins s σ H _ I h) fun v s1 ⟨x, H1, I1, r1, q1⟩ => ?_)
  exact not_of (thn (hr pins s1 σ H1 x v (fun c H2 => Q (.bl (!c)) H2) I1 r1 q1) fun c s2 ⟨H2, I2, q2⟩ => ⟨.bl (!c), H2, I2, rfl, q2⟩)
theorem r_notR {σ : L2.St} {H : Hp} {ta : TE} {r : V → Hp → (Bool → Hp → Prop) → Prop} {Q : VK} (q : ta σ H fun x H1 => r x H1 fun b H2 => Q (.bl (!b)) H2) : tNotR r ta σ H Q := q
end
local macro_rules | `(tactic| walk_at "v1") => `(tactic| with_reducible refine r_notR ?_)

def top (i : Nat) : Stmt := PySem.Challenge.pw_countsheld_k08_counts_divided.main.body.getD i (.Pass ⟨0, 0, 0, 0⟩)
abbrev s_law_source : Stmt := top 22
theorem sc_law_source : FnScope ["script"] ["script"] (defScope s_law_source) := ⟨rfl, rfl, rfl, by decide +kernel, rfl, by decide +kernel, by decide +kernel⟩
abbrev s_law_mixed : Stmt := top 23
theorem sc_law_mixed : FnScope ["cell", "count", "first"] ["cell", "count"] (defScope s_law_mixed) := ⟨rfl, rfl, rfl, by decide +kernel, rfl, by decide +kernel, by decide +kernel⟩
abbrev s_law_draw : Stmt := top 24
theorem sc_law_draw : FnScope ["source", "size", "at", "cell", "value"] ["source", "size"] (defScope s_law_draw) := ⟨rfl, rfl, rfl, by decide +kernel, rfl, by decide +kernel, by decide +kernel⟩
abbrev s_law_word : Stmt := top 25
theorem sc_law_word : FnScope ["source", "words", "word", "k"] ["source"] (defScope s_law_word) := ⟨rfl, rfl, rfl, by decide +kernel, rfl, by decide +kernel, by decide +kernel⟩
abbrev s_law_number : Stmt := top 26
theorem sc_law_number : FnScope ["source", "mode", "number", "k"] ["source"] (defScope s_law_number) := ⟨rfl, rfl, rfl, by decide +kernel, rfl, by decide +kernel, by decide +kernel⟩
abbrev s_law_pairs : Stmt := top 27
theorem sc_law_pairs : FnScope ["source", "most", "pairs", "k", "word"] ["source", "most"] (defScope s_law_pairs) := ⟨rfl, rfl, rfl, by decide +kernel, rfl, by decide +kernel, by decide +kernel⟩
abbrev s_law_model : Stmt := top 28
theorem sc_law_model : FnScope ["pairs", "model", "word", "number"] ["pairs"] (defScope s_law_model) := ⟨rfl, rfl, rfl, by decide +kernel, rfl, by decide +kernel, by decide +kernel⟩
abbrev s_law_divisor : Stmt := top 32
theorem sc_law_divisor : FnScope ["source", "pairs", "divisor", "below", "k", "word", "number"] ["source", "pairs"] (defScope s_law_divisor) := ⟨rfl, rfl, rfl, by decide +kernel, rfl, by decide +kernel, by decide +kernel⟩
abbrev s_is_word : Stmt := top 10
theorem sc_is_word : FnScope ["value", "letter"] ["value"] (defScope s_is_word) := ⟨rfl, rfl, rfl, by decide +kernel, rfl, by decide +kernel, by decide +kernel⟩
abbrev s_BadWord___init__ : Stmt := inClass (top 3) 0
theorem sc_BadWord___init__ : FnScope ["self", "word"] ["self", "word"] (defScope s_BadWord___init__) := ⟨rfl, rfl, rfl, by decide +kernel, rfl, by decide +kernel, by decide +kernel⟩
abbrev s_check_word : Stmt := top 15
theorem sc_check_word : FnScope ["word"] ["word"] (defScope s_check_word) := ⟨rfl, rfl, rfl, by decide +kernel, rfl, by decide +kernel, by decide +kernel⟩
abbrev s_is_number : Stmt := top 11
theorem sc_is_number : FnScope ["value"] ["value"] (defScope s_is_number) := ⟨rfl, rfl, rfl, by decide +kernel, rfl, by decide +kernel, by decide +kernel⟩
abbrev s_is_short : Stmt := top 12
theorem sc_is_short : FnScope ["value"] ["value"] (defScope s_is_short) := ⟨rfl, rfl, rfl, by decide +kernel, rfl, by decide +kernel, by decide +kernel⟩
abbrev s_BadNumber___init__ : Stmt := inClass (top 4) 0
theorem sc_BadNumber___init__ : FnScope ["self", "number"] ["self", "number"] (defScope s_BadNumber___init__) := ⟨rfl, rfl, rfl, by decide +kernel, rfl, by decide +kernel, by decide +kernel⟩
abbrev s_check_number : Stmt := top 16
theorem sc_check_number : FnScope ["number"] ["number"] (defScope s_check_number) := ⟨rfl, rfl, rfl, by decide +kernel, rfl, by decide +kernel, by decide +kernel⟩
abbrev s_Counts___init__ : Stmt := inClass (top 14) 0
theorem sc_Counts___init__ : FnScope ["self", "numbers", "word", "number"] ["self", "numbers"] (defScope s_Counts___init__) := ⟨rfl, rfl, rfl, by decide +kernel, rfl, by decide +kernel, by decide +kernel⟩
abbrev s_counts_of : Stmt := top 18
theorem sc_counts_of : FnScope ["pairs", "made", "word", "number"] ["pairs"] (defScope s_counts_of) := ⟨rfl, rfl, rfl, by decide +kernel, rfl, by decide +kernel, by decide +kernel⟩
abbrev s_is_pair : Stmt := top 17
theorem sc_is_pair : FnScope ["value"] ["value"] (defScope s_is_pair) := ⟨rfl, rfl, rfl, by decide +kernel, rfl, by decide +kernel, by decide +kernel⟩
abbrev s_Counts_of : Stmt := inClass (top 14) 1
theorem sc_Counts_of : FnScope ["cls", "pairs", "at", "pair", "totals", "word", "number"] ["cls", "pairs"] (defScope s_Counts_of) := ⟨rfl, rfl, rfl, by decide +kernel, rfl, by decide +kernel, by decide +kernel⟩
abbrev s_law_told : Stmt := top 29
theorem sc_law_told : FnScope ["model", "words", "word"] ["model"] (defScope s_law_told) := ⟨rfl, rfl, rfl, by decide +kernel, rfl, by decide +kernel, by decide +kernel⟩
abbrev s_Counts_words : Stmt := inClass (top 14) 32
theorem sc_Counts_words : FnScope ["self"] ["self"] (defScope s_Counts_words) := ⟨rfl, rfl, rfl, by decide +kernel, rfl, by decide +kernel, by decide +kernel⟩
abbrev s_Counts_pairs : Stmt := inClass (top 14) 31
theorem sc_Counts_pairs : FnScope ["self", "word"] ["self"] (defScope s_Counts_pairs) := ⟨rfl, rfl, rfl, by decide +kernel, rfl, by decide +kernel, by decide +kernel⟩
abbrev s_NoDivisor___init__ : Stmt := inClass (top 6) 0
theorem sc_NoDivisor___init__ : FnScope ["self", "word"] ["self", "word"] (defScope s_NoDivisor___init__) := ⟨rfl, rfl, rfl, by decide +kernel, rfl, by decide +kernel, by decide +kernel⟩
abbrev s_Counts___bool__ : Stmt := inClass (top 14) 29
theorem sc_Counts___bool__ : FnScope ["self"] ["self"] (defScope s_Counts___bool__) := ⟨rfl, rfl, rfl, by decide +kernel, rfl, by decide +kernel, by decide +kernel⟩
abbrev s_check_divisor : Stmt := top 20
theorem sc_check_divisor : FnScope ["counts", "word", "number"] ["counts"] (defScope s_check_divisor) := ⟨rfl, rfl, rfl, by decide +kernel, rfl, by decide +kernel, by decide +kernel⟩
abbrev s_law_due : Stmt := top 33
theorem sc_law_due : FnScope ["divisor", "told", "word", "number"] ["divisor"] (defScope s_law_due) := ⟨rfl, rfl, rfl, by decide +kernel, rfl, by decide +kernel, by decide +kernel⟩
abbrev s_law_fits : Stmt := top 35
theorem sc_law_fits : FnScope ["times", "model", "divisor", "word"] ["times", "model", "divisor"] (defScope s_law_fits) := ⟨rfl, rfl, rfl, by decide +kernel, rfl, by decide +kernel, by decide +kernel⟩
abbrev s_law_is_integer : Stmt := top 30
theorem sc_law_is_integer : FnScope ["thing"] ["thing"] (defScope s_law_is_integer) := ⟨rfl, rfl, rfl, by decide +kernel, rfl, by decide +kernel, by decide +kernel⟩
abbrev s_law_equal : Stmt := top 31
theorem sc_law_equal : FnScope ["counts", "model", "told", "pair"] ["counts", "model"] (defScope s_law_equal) := ⟨rfl, rfl, rfl, by decide +kernel, rfl, by decide +kernel, by decide +kernel⟩
abbrev s_beside : Stmt := top 19
theorem sc_beside : FnScope ["one", "other", "words", "word"] ["one", "other"] (defScope s_beside) := ⟨rfl, rfl, rfl, by decide +kernel, rfl, by decide +kernel, by decide +kernel⟩
abbrev s_Counts___floordiv__ : Stmt := inClass (top 14) 17
theorem sc_Counts___floordiv__ : FnScope ["self", "other", "word", "number"] ["self", "other"] (defScope s_Counts___floordiv__) := ⟨rfl, rfl, rfl, by decide +kernel, rfl, by decide +kernel, by decide +kernel⟩
abbrev s_Counts___mul__ : Stmt := inClass (top 14) 15
theorem sc_Counts___mul__ : FnScope ["self", "other", "word", "number"] ["self", "other"] (defScope s_Counts___mul__) := ⟨rfl, rfl, rfl, by decide +kernel, rfl, by decide +kernel, by decide +kernel⟩
abbrev s_Counts___sub__ : Stmt := inClass (top 14) 9
theorem sc_Counts___sub__ : FnScope ["self", "other", "word", "mine", "theirs"] ["self", "other"] (defScope s_Counts___sub__) := ⟨rfl, rfl, rfl, by decide +kernel, rfl, by decide +kernel, by decide +kernel⟩
abbrev s_Counts___mod__ : Stmt := inClass (top 14) 18
theorem sc_Counts___mod__ : FnScope ["self", "other"] ["self", "other"] (defScope s_Counts___mod__) := ⟨rfl, rfl, rfl, by decide +kernel, rfl, by decide +kernel, by decide +kernel⟩
abbrev s_law_refused : Stmt := top 34
theorem sc_law_refused : FnScope ["counts", "divisor", "word", "found", "e"] ["counts", "divisor", "word"] (defScope s_law_refused) := ⟨rfl, rfl, rfl, by decide +kernel, rfl, by decide +kernel, by decide +kernel⟩
abbrev s_Counts_only : Stmt := inClass (top 14) 33
theorem sc_Counts_only : FnScope ["self", "words", "word", "number"] ["self", "words"] (defScope s_Counts_only) := ⟨rfl, rfl, rfl, by decide +kernel, rfl, by decide +kernel, by decide +kernel⟩
abbrev s_Counts___rmul__ : Stmt := inClass (top 14) 16
theorem sc_Counts___rmul__ : FnScope ["self", "other"] ["self", "other"] (defScope s_Counts___rmul__) := ⟨rfl, rfl, rfl, by decide +kernel, rfl, by decide +kernel, by decide +kernel⟩
abbrev s_Counts___add__ : Stmt := inClass (top 14) 8
theorem sc_Counts___add__ : FnScope ["self", "other", "word", "mine", "theirs"] ["self", "other"] (defScope s_Counts___add__) := ⟨rfl, rfl, rfl, by decide +kernel, rfl, by decide +kernel, by decide +kernel⟩
abbrev s_Counts___eq__ : Stmt := inClass (top 14) 3
theorem sc_Counts___eq__ : FnScope ["self", "other"] ["self", "other"] (defScope s_Counts___eq__) := ⟨rfl, rfl, rfl, by decide +kernel, rfl, by decide +kernel, by decide +kernel⟩
abbrev s_law : Stmt := top 36
theorem sc_law : FnScope ["script", "source", "pairs", "model", "divisor", "counts", "by", "due", "times", "rest", "word"] ["script"] (defScope s_law) := ⟨rfl, rfl, rfl, by decide +kernel, rfl, by decide +kernel, by decide +kernel⟩
structure Ad where
  f_law_source : Addr
  fd_law_source : FuncData
  f_law_mixed : Addr
  fd_law_mixed : FuncData
  f_law_draw : Addr
  fd_law_draw : FuncData
  f_law_word : Addr
  fd_law_word : FuncData
  f_law_number : Addr
  fd_law_number : FuncData
  f_law_pairs : Addr
  fd_law_pairs : FuncData
  f_law_model : Addr
  fd_law_model : FuncData
  f_law_divisor : Addr
  fd_law_divisor : FuncData
  f_is_word : Addr
  fd_is_word : FuncData
  f_BadWord___init__ : Addr
  fd_BadWord___init__ : FuncData
  f_check_word : Addr
  fd_check_word : FuncData
  f_is_number : Addr
  fd_is_number : FuncData
  f_is_short : Addr
  fd_is_short : FuncData
  f_BadNumber___init__ : Addr
  fd_BadNumber___init__ : FuncData
  f_check_number : Addr
  fd_check_number : FuncData
  f_Counts___init__ : Addr
  fd_Counts___init__ : FuncData
  f_counts_of : Addr
  fd_counts_of : FuncData
  f_is_pair : Addr
  fd_is_pair : FuncData
  f_Counts_of : Addr
  fd_Counts_of : FuncData
  f_law_told : Addr
  fd_law_told : FuncData
  f_Counts_words : Addr
  fd_Counts_words : FuncData
  f_Counts_pairs : Addr
  fd_Counts_pairs : FuncData
  f_NoDivisor___init__ : Addr
  fd_NoDivisor___init__ : FuncData
  f_Counts___bool__ : Addr
  fd_Counts___bool__ : FuncData
  f_check_divisor : Addr
  fd_check_divisor : FuncData
  f_law_due : Addr
  fd_law_due : FuncData
  f_law_fits : Addr
  fd_law_fits : FuncData
  f_law_is_integer : Addr
  fd_law_is_integer : FuncData
  f_law_equal : Addr
  fd_law_equal : FuncData
  f_beside : Addr
  fd_beside : FuncData
  f_Counts___floordiv__ : Addr
  fd_Counts___floordiv__ : FuncData
  f_Counts___mul__ : Addr
  fd_Counts___mul__ : FuncData
  f_Counts___sub__ : Addr
  fd_Counts___sub__ : FuncData
  f_Counts___mod__ : Addr
  fd_Counts___mod__ : FuncData
  f_law_refused : Addr
  fd_law_refused : FuncData
  f_Counts_only : Addr
  fd_Counts_only : FuncData
  f_Counts___rmul__ : Addr
  fd_Counts___rmul__ : FuncData
  f_Counts___add__ : Addr
  fd_Counts___add__ : FuncData
  f_Counts___eq__ : Addr
  fd_Counts___eq__ : FuncData
  f_law : Addr
  fd_law : FuncData
  c_Counts : Addr
  c_BadWord : Addr
  c_BadNumber : Addr
  c_NoDivisor : Addr
  c_CountsheldError : Addr
  p_Counts_of : Addr
structure Txt (K : PySem.W.Frag) (mg : Str → Option Value) (A : Ad) : Prop where
  F_law_source : Fun K "_law_source" "_law_source" s_law_source A.f_law_source A.fd_law_source
  F_law_mixed : Fun K "_law_mixed" "_law_mixed" s_law_mixed A.f_law_mixed A.fd_law_mixed
  F_law_draw : Fun K "_law_draw" "_law_draw" s_law_draw A.f_law_draw A.fd_law_draw
  F_law_word : Fun K "_law_word" "_law_word" s_law_word A.f_law_word A.fd_law_word
  F_law_number : Fun K "_law_number" "_law_number" s_law_number A.f_law_number A.fd_law_number
  F_law_pairs : Fun K "_law_pairs" "_law_pairs" s_law_pairs A.f_law_pairs A.fd_law_pairs
  F_law_model : Fun K "_law_model" "_law_model" s_law_model A.f_law_model A.fd_law_model
  F_law_divisor : Fun K "_law_divisor" "_law_divisor" s_law_divisor A.f_law_divisor A.fd_law_divisor
  F_is_word : Fun K "is_word" "is_word" s_is_word A.f_is_word A.fd_is_word
  F_BadWord___init__ : Fun K "__init__" "BadWord.__init__" s_BadWord___init__ A.f_BadWord___init__ A.fd_BadWord___init__
  F_check_word : Fun K "_check_word" "_check_word" s_check_word A.f_check_word A.fd_check_word
  F_is_number : Fun K "is_number" "is_number" s_is_number A.f_is_number A.fd_is_number
  F_is_short : Fun K "is_short" "is_short" s_is_short A.f_is_short A.fd_is_short
  F_BadNumber___init__ : Fun K "__init__" "BadNumber.__init__" s_BadNumber___init__ A.f_BadNumber___init__ A.fd_BadNumber___init__
  F_check_number : Fun K "_check_number" "_check_number" s_check_number A.f_check_number A.fd_check_number
  F_Counts___init__ : Fun K "__init__" "Counts.__init__" s_Counts___init__ A.f_Counts___init__ A.fd_Counts___init__
  F_counts_of : Fun K "_counts_of" "_counts_of" s_counts_of A.f_counts_of A.fd_counts_of
  F_is_pair : Fun K "_is_pair" "_is_pair" s_is_pair A.f_is_pair A.fd_is_pair
  F_Counts_of : Fun K "of" "Counts.of" s_Counts_of A.f_Counts_of A.fd_Counts_of
  F_law_told : Fun K "_law_told" "_law_told" s_law_told A.f_law_told A.fd_law_told
  F_Counts_words : Fun K "words" "Counts.words" s_Counts_words A.f_Counts_words A.fd_Counts_words
  F_Counts_pairs : Fun K "pairs" "Counts.pairs" s_Counts_pairs A.f_Counts_pairs A.fd_Counts_pairs
  F_NoDivisor___init__ : Fun K "__init__" "NoDivisor.__init__" s_NoDivisor___init__ A.f_NoDivisor___init__ A.fd_NoDivisor___init__
  F_Counts___bool__ : Fun K "__bool__" "Counts.__bool__" s_Counts___bool__ A.f_Counts___bool__ A.fd_Counts___bool__
  F_check_divisor : Fun K "_check_divisor" "_check_divisor" s_check_divisor A.f_check_divisor A.fd_check_divisor
  F_law_due : Fun K "_law_due" "_law_due" s_law_due A.f_law_due A.fd_law_due
  F_law_fits : Fun K "_law_fits" "_law_fits" s_law_fits A.f_law_fits A.fd_law_fits
  F_law_is_integer : Fun K "_law_is_integer" "_law_is_integer" s_law_is_integer A.f_law_is_integer A.fd_law_is_integer
  F_law_equal : Fun K "_law_equal" "_law_equal" s_law_equal A.f_law_equal A.fd_law_equal
  F_beside : Fun K "_beside" "_beside" s_beside A.f_beside A.fd_beside
  F_Counts___floordiv__ : Fun K "__floordiv__" "Counts.__floordiv__" s_Counts___floordiv__ A.f_Counts___floordiv__ A.fd_Counts___floordiv__
  F_Counts___mul__ : Fun K "__mul__" "Counts.__mul__" s_Counts___mul__ A.f_Counts___mul__ A.fd_Counts___mul__
  F_Counts___sub__ : Fun K "__sub__" "Counts.__sub__" s_Counts___sub__ A.f_Counts___sub__ A.fd_Counts___sub__
  F_Counts___mod__ : Fun K "__mod__" "Counts.__mod__" s_Counts___mod__ A.f_Counts___mod__ A.fd_Counts___mod__
  F_law_refused : Fun K "_law_refused" "_law_refused" s_law_refused A.f_law_refused A.fd_law_refused
  F_Counts_only : Fun K "only" "Counts.only" s_Counts_only A.f_Counts_only A.fd_Counts_only
  F_Counts___rmul__ : Fun K "__rmul__" "Counts.__rmul__" s_Counts___rmul__ A.f_Counts___rmul__ A.fd_Counts___rmul__
  F_Counts___add__ : Fun K "__add__" "Counts.__add__" s_Counts___add__ A.f_Counts___add__ A.fd_Counts___add__
  F_Counts___eq__ : Fun K "__eq__" "Counts.__eq__" s_Counts___eq__ A.f_Counts___eq__ A.fd_Counts___eq__
  F_law : Fun K "law" "law" s_law A.f_law A.fd_law
  vm_BadWord : mg "BadWord" = some (.ref A.c_BadWord)
  ox_BadWord : OexC K A.c_BadWord
  oi_BadWord : PySem.W.findIn K (.ref A.c_BadWord) "__init__" = some (some (.ref A.f_BadWord___init__))
  ot_BadWord : PySem.W.typeIn K (.ref A.f_BadWord___init__) = some (.type "function")
  xn_BadWord_word : PySem.W.findIn K (.ref A.c_BadWord) "word" = some none
  te_BadWord_NoDivisor : PySem.W.exmOne K (.ref A.c_BadWord) (.ref A.c_NoDivisor) = some false
  vm_BadNumber : mg "BadNumber" = some (.ref A.c_BadNumber)
  ox_BadNumber : OexC K A.c_BadNumber
  oi_BadNumber : PySem.W.findIn K (.ref A.c_BadNumber) "__init__" = some (some (.ref A.f_BadNumber___init__))
  ot_BadNumber : PySem.W.typeIn K (.ref A.f_BadNumber___init__) = some (.type "function")
  xn_BadNumber_number : PySem.W.findIn K (.ref A.c_BadNumber) "number" = some none
  te_BadNumber_NoDivisor : PySem.W.exmOne K (.ref A.c_BadNumber) (.ref A.c_NoDivisor) = some false
  vm_NoDivisor : mg "NoDivisor" = some (.ref A.c_NoDivisor)
  ob_NoDivisor : OexB K A.c_NoDivisor
  oi_NoDivisor : PySem.W.findIn K (.ref A.c_NoDivisor) "__init__" = some (some (.ref A.f_NoDivisor___init__))
  ot_NoDivisor : PySem.W.typeIn K (.ref A.f_NoDivisor___init__) = some (.type "function")
  xn_NoDivisor_word : PySem.W.findIn K (.ref A.c_NoDivisor) "word" = some none
  te_NoDivisor_NoDivisor : PySem.W.exmOne K (.ref A.c_NoDivisor) (.ref A.c_NoDivisor) = some true
  xf_NoDivisor : XfC K A.c_NoDivisor
  xc_NoDivisor : ExcC K A.c_NoDivisor
  vm_CountsheldError : mg "CountsheldError" = some (.ref A.c_CountsheldError)
  kit_NoDivisor_CountsheldError : PySem.W.kitOne K (.ref A.c_NoDivisor) (.ref A.c_CountsheldError) = some false
  kit_NoDivisor_ZeroDivisionError : PySem.W.kitOne K (.ref A.c_NoDivisor) (.type "ZeroDivisionError") = some true
  m_law_source : mg "_law_source" = some (.ref A.f_law_source)
  k_law_source : PySem.W.keepIn K (.ref A.f_law_source) = true
  b_law_source : Binds K A.fd_law_source ["script"] []
  m_law_mixed : mg "_law_mixed" = some (.ref A.f_law_mixed)
  k_law_mixed : PySem.W.keepIn K (.ref A.f_law_mixed) = true
  b_law_mixed : Binds K A.fd_law_mixed ["cell", "count"] []
  m_law_draw : mg "_law_draw" = some (.ref A.f_law_draw)
  k_law_draw : PySem.W.keepIn K (.ref A.f_law_draw) = true
  b_law_draw : Binds K A.fd_law_draw ["source", "size"] []
  m_law_word : mg "_law_word" = some (.ref A.f_law_word)
  k_law_word : PySem.W.keepIn K (.ref A.f_law_word) = true
  b_law_word : Binds K A.fd_law_word ["source"] []
  m_law_number : mg "_law_number" = some (.ref A.f_law_number)
  k_law_number : PySem.W.keepIn K (.ref A.f_law_number) = true
  b_law_number : Binds K A.fd_law_number ["source"] []
  m_law_pairs : mg "_law_pairs" = some (.ref A.f_law_pairs)
  k_law_pairs : PySem.W.keepIn K (.ref A.f_law_pairs) = true
  b_law_pairs : Binds K A.fd_law_pairs ["source", "most"] []
  m_law_model : mg "_law_model" = some (.ref A.f_law_model)
  k_law_model : PySem.W.keepIn K (.ref A.f_law_model) = true
  b_law_model : Binds K A.fd_law_model ["pairs"] []
  m_law_divisor : mg "_law_divisor" = some (.ref A.f_law_divisor)
  k_law_divisor : PySem.W.keepIn K (.ref A.f_law_divisor) = true
  b_law_divisor : Binds K A.fd_law_divisor ["source", "pairs"] []
  m_is_word : mg "is_word" = some (.ref A.f_is_word)
  k_is_word : PySem.W.keepIn K (.ref A.f_is_word) = true
  b_is_word : Binds K A.fd_is_word ["value"] []
  b_BadWord___init__ : Binds K A.fd_BadWord___init__ ["self", "word"] []
  m_check_word : mg "_check_word" = some (.ref A.f_check_word)
  k_check_word : PySem.W.keepIn K (.ref A.f_check_word) = true
  b_check_word : Binds K A.fd_check_word ["word"] []
  m_is_number : mg "is_number" = some (.ref A.f_is_number)
  k_is_number : PySem.W.keepIn K (.ref A.f_is_number) = true
  b_is_number : Binds K A.fd_is_number ["value"] []
  m_is_short : mg "is_short" = some (.ref A.f_is_short)
  k_is_short : PySem.W.keepIn K (.ref A.f_is_short) = true
  b_is_short : Binds K A.fd_is_short ["value"] []
  b_BadNumber___init__ : Binds K A.fd_BadNumber___init__ ["self", "number"] []
  m_check_number : mg "_check_number" = some (.ref A.f_check_number)
  k_check_number : PySem.W.keepIn K (.ref A.f_check_number) = true
  b_check_number : Binds K A.fd_check_number ["number"] []
  m_counts_of : mg "_counts_of" = some (.ref A.f_counts_of)
  k_counts_of : PySem.W.keepIn K (.ref A.f_counts_of) = true
  b_counts_of : Binds K A.fd_counts_of ["pairs"] []
  m_is_pair : mg "_is_pair" = some (.ref A.f_is_pair)
  k_is_pair : PySem.W.keepIn K (.ref A.f_is_pair) = true
  b_is_pair : Binds K A.fd_is_pair ["value"] []
  cm_Counts_of : ClX.CMet K A.c_Counts (.type "type") "of" A.p_Counts_of A.f_Counts_of
  b_Counts_of : Binds K A.fd_Counts_of ["cls", "pairs"] []
  m_law_told : mg "_law_told" = some (.ref A.f_law_told)
  k_law_told : PySem.W.keepIn K (.ref A.f_law_told) = true
  b_law_told : Binds K A.fd_law_told ["model"] []
  mt_Counts_words : Meth K A.c_Counts "words" A.f_Counts_words
  b_Counts_words : Binds K A.fd_Counts_words ["self"] []
  mt_Counts_pairs : Meth K A.c_Counts "pairs" A.f_Counts_pairs
  b_Counts_pairs : Binds K A.fd_Counts_pairs ["self"] []
  b_NoDivisor___init__ : Binds K A.fd_NoDivisor___init__ ["self", "word"] []
  mt_Counts___bool__ : Meth K A.c_Counts "__bool__" A.f_Counts___bool__
  b_Counts___bool__ : Binds K A.fd_Counts___bool__ ["self"] []
  m_check_divisor : mg "_check_divisor" = some (.ref A.f_check_divisor)
  k_check_divisor : PySem.W.keepIn K (.ref A.f_check_divisor) = true
  b_check_divisor : Binds K A.fd_check_divisor ["counts"] []
  m_law_due : mg "_law_due" = some (.ref A.f_law_due)
  k_law_due : PySem.W.keepIn K (.ref A.f_law_due) = true
  b_law_due : Binds K A.fd_law_due ["divisor"] []
  m_law_fits : mg "_law_fits" = some (.ref A.f_law_fits)
  k_law_fits : PySem.W.keepIn K (.ref A.f_law_fits) = true
  b_law_fits : Binds K A.fd_law_fits ["times", "model", "divisor"] []
  m_law_is_integer : mg "_law_is_integer" = some (.ref A.f_law_is_integer)
  k_law_is_integer : PySem.W.keepIn K (.ref A.f_law_is_integer) = true
  b_law_is_integer : Binds K A.fd_law_is_integer ["thing"] []
  m_law_equal : mg "_law_equal" = some (.ref A.f_law_equal)
  k_law_equal : PySem.W.keepIn K (.ref A.f_law_equal) = true
  b_law_equal : Binds K A.fd_law_equal ["counts", "model"] []
  m_beside : mg "_beside" = some (.ref A.f_beside)
  k_beside : PySem.W.keepIn K (.ref A.f_beside) = true
  b_beside : Binds K A.fd_beside ["one", "other"] []
  mt_Counts___floordiv__ : Meth K A.c_Counts "__floordiv__" A.f_Counts___floordiv__
  b_Counts___floordiv__ : Binds K A.fd_Counts___floordiv__ ["self", "other"] []
  mt_Counts___mul__ : Meth K A.c_Counts "__mul__" A.f_Counts___mul__
  b_Counts___mul__ : Binds K A.fd_Counts___mul__ ["self", "other"] []
  mt_Counts___sub__ : Meth K A.c_Counts "__sub__" A.f_Counts___sub__
  b_Counts___sub__ : Binds K A.fd_Counts___sub__ ["self", "other"] []
  mt_Counts___mod__ : Meth K A.c_Counts "__mod__" A.f_Counts___mod__
  b_Counts___mod__ : Binds K A.fd_Counts___mod__ ["self", "other"] []
  m_law_refused : mg "_law_refused" = some (.ref A.f_law_refused)
  k_law_refused : PySem.W.keepIn K (.ref A.f_law_refused) = true
  b_law_refused : Binds K A.fd_law_refused ["counts", "divisor", "word"] []
  mt_Counts_only : Meth K A.c_Counts "only" A.f_Counts_only
  mt_Counts___rmul__ : Meth K A.c_Counts "__rmul__" A.f_Counts___rmul__
  b_Counts___rmul__ : Binds K A.fd_Counts___rmul__ ["self", "other"] []
  mt_Counts___add__ : Meth K A.c_Counts "__add__" A.f_Counts___add__
  b_Counts___add__ : Binds K A.fd_Counts___add__ ["self", "other"] []
  mt_Counts___eq__ : Meth K A.c_Counts "__eq__" A.f_Counts___eq__
  b_Counts___eq__ : Binds K A.fd_Counts___eq__ ["self", "other"] []
  m_law : mg "law" = some (.ref A.f_law)
  k_law : PySem.W.keepIn K (.ref A.f_law) = true
  b_law : Binds K A.fd_law ["script"] []
  n_ZeroDivisionError : mg "ZeroDivisionError" = none
  n_abs : mg "abs" = none
  n_all : mg "all" = none
  n_bool : mg "bool" = none
  n_enumerate : mg "enumerate" = none
  n_int : mg "int" = none
  n_isinstance : mg "isinstance" = none
  n_len : mg "len" = none
  n_list : mg "list" = none
  n_min : mg "min" = none
  n_range : mg "range" = none
  n_sorted : mg "sorted" = none
  n_str : mg "str" = none
  n_tuple : mg "tuple" = none
  vm_Counts : mg "Counts" = some (.ref A.c_Counts)
  kl_Counts : Kl K A.c_Counts ["_numbers"]
  ns_Counts : PySem.W.noSeq K A.c_Counts = true
  sf_Counts : PySem.W.selfFirst K A.c_Counts = true
  nf_Counts : PySem.W.notFirst K A.c_Counts (.ref A.c_Counts) = true
  ne_Counts : PySem.W.findIn K (.ref A.c_Counts) "__ne__" = some (some (.builtin "object.__ne__"))
  mo_Counts : PySem.W.mroIn K A.c_Counts (.type "object") = some true
  mi_Counts : MulI K A.c_Counts
  ki_Counts : Ki K A.c_Counts
  mk_Counts : Mk K A.c_Counts A.f_Counts___init__
  r_Counts : ClX.CRead K A.c_Counts (.type "type")
  u_Counts___init__ : PySem.W.findCls K (.ref A.c_Counts) (.type "type") "__init__" = some (.val (.ref A.f_Counts___init__))
  kp_Counts___init__ : PySem.W.keepIn K (.ref A.f_Counts___init__) = true
  kit_Counts_Counts : PySem.W.kitOne K (.ref A.c_Counts) (.ref A.c_Counts) = some true
  e_LETTERS : ∃ u, mg "_LETTERS" = some u ∧ RelV (.str "abcdefghijklmnopqrstuvwxyz") u
  e_BEYOND : ∃ u, mg "_BEYOND" = some u ∧ RelV (.int 1000000000000000000000000000000) u
section
variable {P : Program} {w : World} {K : PySem.W.Frag} {mg : Str → Option Value} {base : Heap} {A : Ad}
/-! law_source -/
def sp_law_source (K : PySem.W.Frag) : Sp := fun vs H Q _ => ∃ (a : Addr) (ns : List Int) (fr : List Asn), vs = [.ref a] ∧ SqL K H a (ns.map V.int) ∧ ns.length ≤ 63 ∧ Sep fr H ∧ ∀ s H', Sep (Src s :: fr) H' → Q (.ref s) H'
theorem s_sq {l : List Asn} {H : Hp} {K : PySem.W.Frag} {Q : VK} {p : Addr} {xs : List V} {lo hi : Option Int} (hS : SqL K H p xs) (S : Sep l H) (k : ∀ d H', Sep (At d (.lst (cutV xs lo hi)) :: l) H' → Q (.ref d) H') : gSl K (.ref p) lo hi H Q := .inl ⟨p, xs, rfl, hS, fun d hd => k d _ (S.new hd)⟩
theorem cut_map {α : Type} (f : α → V) (as : List α) (lo hi : Option Int) : ∃ bs : List α, cutV (as.map f) lo hi = bs.map f ∧ bs.length ≤ as.length := by
  refine ⟨(as.drop (HT.sIx (as.map f).length 0 lo)).take (HT.sIx (as.map f).length (as.map f).length hi - HT.sIx (as.map f).length 0 lo), ?_, ?_⟩
  · unfold cutV
    rw [List.map_take, List.map_drop]
  · rw [List.length_take, List.length_drop]
    omega
theorem ok_law_source (T : Txt K mg A) : FnOk P w K mg base CX0 1 A.f_law_source A.fd_law_source ["script"] (sp_law_source K) := by
  refine T.F_law_source.ok sc_law_source (fun vs H Q E h => ?_) (fun cdv A' outer s0 H vs Q E hr h => ?_)
  · obtain ⟨c, n, fr, rfl, _⟩ := h
    rfl
  · obtain ⟨a, ns, fr, rfl, hS, hz, S, k⟩ := h
    refine ⟨_, (pss_one (ps_ret (pe_lst (pa_cons (pe_callTy (call_gList (K := K) rfl) (by rfl) T.n_list (by decide +kernel) (pa_cons (pe_slice (sl_g (K := K) rfl) (pv 0) po_none (po_some pe_int)) pa_nil)) (pa_cons pe_int (pa_cons pe_int (pa_cons pe_int pa_nil))))))), ?_⟩
    walk_at "v"
    refine s_sq hS S fun d H1 S1 => ?_
    obtain ⟨bs, e, hb⟩ := cut_map V.int ns none (some 63)
    rw [e] at S1
    walk_at "v"
    refine' c_listL (by assumption) ?hi ?_
    (case hi => walk_at "has")
    intro q H2 S2
    walk_at "v"
    refine k _ _ (src_close (L := q) (ns := bs) (a := 0) (b := 0) (c := 0) ?_ (by decide) (by decide) (by decide) ?_)
    · omega
    · rename_i p H3 S3
      exact S3.dr2
/-! law_mixed -/
def sp_law_mixed : Sp := fun vs H Q _ => ∃ c n : Int, vs = [.int c, .int n] ∧ ∀ r : Int, 0 ≤ r → Q (.int r) H
theorem c_mixed {c n : Int} {H : Hp} {Q : VK} {E : XK} (k : ∀ r : Int, 0 ≤ r → Q (.int r) H) : sp_law_mixed [.int c, .int n] H Q E := ⟨c, n, rfl, k⟩
local macro_rules | `(tactic| walk_at "v1") => `(tactic| ((with_reducible refine c_mixed ?_); intro _ _))
theorem ok_law_mixed (T : Txt K mg A) : FnOk P w K mg base CX0 1 A.f_law_mixed A.fd_law_mixed ["cell", "count"] (sp_law_mixed) := by
  refine T.F_law_mixed.ok sc_law_mixed (fun vs H Q E h => ?_) (fun cdv A' outer s0 H vs Q E hr h => ?_)
  · obtain ⟨c, n, rfl, _⟩ := h
    rfl
  · obtain ⟨c, n, rfl, k⟩ := h
    refine ⟨_, (pss_cons (ps_if (pt_cmpR (op_gEq (K := K) rfl hr.units) (pv 0) pe_int (nomark _)) (pss_one (ps_ret pe_int)) pss_nil)
      (pss_cons (ps_set (i := 2) sc_law_mixed.nd rfl (.inl rfl) (pe_op op_gMod (pe_callTy call_gInt (by rfl) T.n_int (by decide +kernel) (pa_cons (pe_op op_gAdd (pe_op op_gMul (pv 0) pe_int) (pe_op op_gMul (pv 1) pe_int)) pa_nil)) pe_int))
      (pss_one (ps_ret (pe_op op_gDiv (pe_op op_gMod (pe_callTy call_gInt (by rfl) T.n_int (by decide +kernel) (pa_cons (pe_op op_gAdd (pe_op op_gAdd (pe_op op_gMul (pv 2) pe_int) (pe_op op_gMul (pe_op op_gDiv (pv 2) pe_int) (pv 1))) pe_int) pa_nil)) pe_int) pe_int))))), ?_⟩
    walk_at "v"
    refine r_ifD (fun e => ?_) (fun e => ?_)
    · walk_at "v"
      exact k 0 (by decide)
    · walk_at "v"
      refine k _ ?_
      omega
/-! law_draw -/
local macro_rules | `(tactic| walk_at "srcE") => `(tactic| (first | omega | exact Int.ediv_nonneg (by omega) (by omega)))
def sp_law_draw : Sp := fun vs H Q _ => ∃ (s : Addr) (n : Int) (fr : List Asn), vs = [.ref s, .int n] ∧ 0 < n ∧ n < 10 ^ 40 ∧ Sep (Src s :: fr) H ∧ ∀ (r : Int) (H' : Hp), 0 ≤ r → r < n → Sep (Src s :: fr) H' → Q (.int r) H'
theorem c_draw {l : List Asn} {H : Hp} {i : Nat} {s : Addr} {n : Int} {Q : VK} {E : XK} (S : Sep l H) (e : l[i]? = some (Src s)) (h0 : 0 < n) (h1 : n < 10 ^ 40) (k : ∀ (r : Int) (H' : Hp), 0 ≤ r → r < n → Sep l H' → Q (.int r) H') : sp_law_draw [.ref s, .int n] H Q E :=
  ⟨s, n, _, rfl, h0, h1, S.pick e, fun r H' a b S' => k r H' a b (Sep.backS e S')⟩
theorem ok_law_draw (T : Txt K mg A) : FnOk P w K mg base CX0 2 A.f_law_draw A.fd_law_draw ["source", "size"] (sp_law_draw) := by
  refine T.F_law_draw.ok sc_law_draw (fun vs H Q E h => ?_) (fun cdv A' outer s0 H vs Q E hr h => ?_)
  · obtain ⟨c, n, fr, rfl, _⟩ := h
    rfl
  · obtain ⟨s, n, fr, rfl, n0, n1, S, k⟩ := h
    obtain ⟨L, ns, a, b, c, hz, a0, b0, c0, S⟩ := src_open S
    refine ⟨_, (pss_cons (ps_asg (pe_op op_gAdd (pe_ix (ix_g (K := K) rfl) (pv 0) pe_int (fun _ _ => rfl)) pe_int) (pg_sub (pv 0) pe_int set_list))
      (pss_cons (ps_if (PW.pt (pw_and (pt_cmpR (op_gEq (K := K) rfl hr.units) (pe_ix (ix_g (K := K) rfl) (pv 0) pe_int (fun _ _ => rfl)) pe_int (nomark _)) (pw_and1 (pt_cmpR op_gGt (pe_callB (call_gLen (K := K) rfl) (by rfl) T.n_len (by decide +kernel) (pa_cons (pe_ix (ix_g (K := K) rfl) (pv 0) pe_int (fun _ _ => rfl)) pa_nil)) pe_int (nomark _))))) (pss_cons (ps_set (i := 2) sc_law_draw.nd rfl (.inl rfl) (pe_ix (ix_g (K := K) rfl) (pv 0) pe_int (fun _ _ => rfl)))
      (pss_cons (ps_set (i := 3) sc_law_draw.nd rfl (.inl rfl) (pe_ix (ix_g (K := K) rfl) (pe_ix (ix_g (K := K) rfl) (pv 0) pe_int (fun _ _ => rfl)) (pe_op op_gMod (pe_callTy call_gInt (by rfl) T.n_int (by decide +kernel) (pa_cons (pv 2) pa_nil)) (pe_callB (call_gLen (K := K) rfl) (by rfl) T.n_len (by decide +kernel) (pa_cons (pe_ix (ix_g (K := K) rfl) (pv 0) pe_int (fun _ _ => rfl)) pa_nil))) (fun _ _ => rfl)))
      (pss_cons (ps_asg (pe_op op_gAdd (pv 2) pe_int) (pg_sub (pv 0) pe_int set_list))
      (pss_one (ps_if (PW.pt (pw_and (pt_cmpR op_gLt (pv 2) (pe_callB (call_gLen (K := K) rfl) (by rfl) T.n_len (by decide +kernel) (pa_cons (pe_ix (ix_g (K := K) rfl) (pv 0) pe_int (fun _ _ => rfl)) pa_nil)) (nomark _)) (pw_and1 (pt_cmpR op_gGe (pe_callB call_gAbs (by rfl) T.n_abs (by decide +kernel) (pa_cons (pv 3) pa_nil)) (pe_op op_gPow pe_int pe_int) (nomark _))))) (pss_one (ps_asg (pe_callB call_gAbs (by rfl) T.n_abs (by decide +kernel) (pa_cons (pv 3) pa_nil)) (pg_sub (pv 0) pe_int set_list))) (pss_one (ps_ret (pe_op op_gMod (pe_callTy call_gInt (by rfl) T.n_int (by decide +kernel) (pa_cons (pe_call (ok_law_mixed T) (hr.mono (by decide)) rfl T.m_law_mixed T.k_law_mixed T.b_law_mixed .nil pass0 (pa_cons (pv 3) (pa_cons (pe_ix (ix_g (K := K) rfl) (pv 0) pe_int (fun _ _ => rfl)) pa_nil))) pa_nil)) (pv 1))))))))) pss_nil)
      (pss_cons (ps_set (i := 4) sc_law_draw.nd rfl (.inl rfl) (pe_op op_gMod (pe_callTy call_gInt (by rfl) T.n_int (by decide +kernel) (pa_cons (pe_ix (ix_g (K := K) rfl) (pv 0) pe_int (fun _ _ => rfl)) pa_nil)) (pv 1)))
      (pss_cons (ps_asg (pe_op op_gDiv (pe_ix (ix_g (K := K) rfl) (pv 0) pe_int (fun _ _ => rfl)) (pv 1)) (pg_sub (pv 0) pe_int set_list))
      (pss_one (ps_ret (pv 4))))))), ?_⟩
    walk_at "v"
    rename_i H1 S1
    refine r_ifD (fun e0 => ?_) (fun e0 => ?_)
    · walk_at "v"
      refine r_ifD (fun e1 => ?_) (fun e1 => ?_)
      · walk_at "v"
        refine r_ifD (fun e2 => ?_) (fun e2 => ?_)
        · walk_at "v"
          refine r_ifD (fun e3 => ?_) (fun e3 => ?_)
          · walk_at "v"
            refine k _ _ (by assumption) (by assumption) (src_close hz ?_ ?_ ?_ (by assumption)) <;> walk_at "srcE"
          · walk_at "v"
            refine k _ _ (by assumption) (by assumption) (src_close hz ?_ ?_ ?_ (by assumption)) <;> walk_at "srcE"
        · walk_at "v"
          refine k _ _ (by assumption) (by assumption) (src_close hz ?_ ?_ ?_ (by assumption)) <;> walk_at "srcE"
      · walk_at "v"
        refine k _ _ (by assumption) (by assumption) (src_close hz ?_ ?_ ?_ (by assumption)) <;> walk_at "srcE"
    · walk_at "v"
      refine k _ _ (by assumption) (by assumption) (src_close hz ?_ ?_ ?_ (by assumption)) <;> walk_at "srcE"
local macro_rules | `(tactic| walk_at "v1") => `(tactic| ((with_reducible refine' c_draw (by assumption) ?hi ?h0 ?h1 ?_); (case hi => walk_at "has"); (case h0 => (first | decide | omega | assumption)); (case h1 => (first | decide | omega | assumption)); intro _ _ _ _ _))
/-! law_word -/
def sp_law_word : Sp := fun vs H Q _ => ∃ (s : Addr) (fr : List Asn), vs = [.ref s] ∧ Sep (Src s :: fr) H ∧ ∀ (w : Str) (H' : Hp), Wd w → Sep (Src s :: fr) H' → Q (.str w) H'
theorem c_word {l : List Asn} {H : Hp} {i : Nat} {s : Addr} {Q : VK} {E : XK} (S : Sep l H) (e : l[i]? = some (Src s)) (k : ∀ (w : Str) (H' : Hp), Wd w → Sep l H' → Q (.str w) H') : sp_law_word [.ref s] H Q E :=
  ⟨s, _, rfl, S.pick e, fun r H' a S' => k r H' a (Sep.backS e S')⟩
theorem ok_law_word (T : Txt K mg A) : FnOk P w K mg base CX0 3 A.f_law_word A.fd_law_word ["source"] (sp_law_word) := by
  refine T.F_law_word.ok sc_law_word (fun vs H Q E h => ?_) (fun cdv A' outer s0 H vs Q E hr h => ?_)
  · obtain ⟨s, fr, rfl, _⟩ := h
    rfl
  · obtain ⟨s, fr, rfl, S, k⟩ := h
    refine ⟨_, (pss_cons (ps_if (pt_cmpR (op_gEq (K := K) rfl hr.units) (pe_call (ok_law_draw T) (hr.mono (by decide)) rfl T.m_law_draw T.k_law_draw T.b_law_draw .nil pass0 (pa_cons (pv 0) (pa_cons pe_int pa_nil))) pe_int (nomark _)) (pss_cons (ps_set (i := 1) sc_law_word.nd rfl (.inl rfl) (pe_lst (pa_cons pe_str (pa_cons pe_str (pa_cons pe_str (pa_cons pe_str (pa_cons pe_str (pa_cons pe_str (pa_cons pe_str (pa_cons pe_str pa_nil))))))))))
      (pss_one (ps_ret (pe_ix (ix_g (K := K) rfl) (pv 1) (pe_call (ok_law_draw T) (hr.mono (by decide)) rfl T.m_law_draw T.k_law_draw T.b_law_draw .nil pass0 (pa_cons (pv 0) (pa_cons pe_int pa_nil))) (fun _ _ => rfl))))) pss_nil)
      (pss_cons (ps_set (i := 2) sc_law_word.nd rfl (.inl rfl) pe_str)
      (pss_cons (ps_for PassesOwn.never rfl (pi_range1 (by rfl) T.n_range (pa_cons (pe_op op_gAdd pe_int (pe_call (ok_law_draw T) (hr.mono (by decide)) rfl T.m_law_draw T.k_law_draw T.b_law_draw .nil pass0 (pa_cons (pv 0) (pa_cons pe_int pa_nil)))) pa_nil)) (pg_name (i := 3) sc_law_word.nd rfl (.inl rfl)) (pss_one (ps_set (i := 2) sc_law_word.nd rfl (.inl rfl) (pe_op op_gAdd (pv 2) (pe_ix (ix_g (K := K) rfl) pe_str (pe_call (ok_law_draw T) (hr.mono (by decide)) rfl T.m_law_draw T.k_law_draw T.b_law_draw .nil pass0 (pa_cons (pv 0) (pa_cons pe_int pa_nil))) (fun _ _ => rfl))))))
      (pss_one (ps_ret (pv 2)))))), ?_⟩
    walk_at "v"
    refine r_ifD (fun e0 => ?_) (fun e0 => ?_)
    · walk_at "v"
      rename_i p _ _ r H1 r0 r8 S1
      refine x_lstA S1 has0 r0 r8 fun v hv => ?_
      obtain ⟨w, rfl, hw⟩ : ∃ w, v = V.str w ∧ Wd w := by
        have hm := List.mem_of_getElem? hv
        simp only [List.mem_cons, List.not_mem_nil, or_false] at hm
        rcases hm with rfl | rfl | rfl | rfl | rfl | rfl | rfl | rfl <;> exact ⟨_, rfl, by decide +kernel⟩
      exact k w _ hw S1.tail
    · walk_at "v"
      try refine r_forR1 ?_
      walk_at "v"
      rename_i r H1 r0 r8 S1
      refine forR (by omega) (by omega) (fun i σ H => ∃ (w : Str) (a b : Option V), σ = [some (.ref s), a, some (.str w), b] ∧ w.length = i ∧ (∀ c ∈ w.cps.toList, c ∈ abc) ∧ Sep (Src s :: fr) H) ⟨_, _, _, rfl, rfl, fun c hc => (nomatch hc), S1⟩ ?_ ?_
      · rintro i σ H2 hi ⟨w, a, b, rfl, hl, hc, S2⟩
        walk_at "v"
        rename_i r' H3 r0' r8' S3
        refine x_strI (by decide +kernel) r0' (by have e := abc_len; unfold abc at e; omega) fun c hc' => ?_
        refine o_addS (Nat.le_trans (show w.length + 1 ≤ 1000 by omega) (by decide)) ?_
        walk_at "v"
        refine ⟨w ++ ⟨#[c]⟩, _, _, rfl, by rw [str_len_app, hl]; rfl, fun c' hm => ?_, S3⟩
        rw [str_app] at hm
        rcases List.mem_append.1 hm with hm | hm
        · exact hc c' hm
        · have e : c' = c := List.mem_singleton.1 hm
          rw [e]; exact hc'
      · rintro σ H2 ⟨w, a, b, rfl, hl, hc, S2⟩
        walk_at "v"
        exact k w _ ⟨by omega, by omega, hc⟩ S2
local macro_rules | `(tactic| walk_at "v1") => `(tactic| ((with_reducible refine' c_word (by assumption) ?hi ?_); (case hi => walk_at "has"); intro _ _ _ _))
/-! law_number -/
def sp_law_number : Sp := fun vs H Q _ => ∃ (s : Addr) (fr : List Asn), vs = [.ref s] ∧ Sep (Src s :: fr) H ∧ ∀ (n : Int) (H' : Hp), -(10 ^ 30) < n → n < 10 ^ 30 → Sep (Src s :: fr) H' → Q (.int n) H'
theorem c_number {l : List Asn} {H : Hp} {i : Nat} {s : Addr} {Q : VK} {E : XK} (S : Sep l H) (e : l[i]? = some (Src s)) (k : ∀ (n : Int) (H' : Hp), -(10 ^ 30) < n → n < 10 ^ 30 → Sep l H' → Q (.int n) H') : sp_law_number [.ref s] H Q E :=
  ⟨s, _, rfl, S.pick e, fun r H' a b S' => k r H' a b (Sep.backS e S')⟩
theorem ok_law_number (T : Txt K mg A) : FnOk P w K mg base CX0 3 A.f_law_number A.fd_law_number ["source"] (sp_law_number) := by
  refine T.F_law_number.ok sc_law_number (fun vs H Q E h => ?_) (fun cdv A' outer s0 H vs Q E hr h => ?_)
  · obtain ⟨s, fr, rfl, _⟩ := h
    rfl
  · obtain ⟨s, fr, rfl, S, k⟩ := h
    refine ⟨_, (pss_cons (ps_set (i := 1) sc_law_number.nd rfl (.inl rfl) (pe_call (ok_law_draw T) (hr.mono (by decide)) rfl T.m_law_draw T.k_law_draw T.b_law_draw .nil pass0 (pa_cons (pv 0) (pa_cons pe_int pa_nil))))
      (pss_cons (ps_if (pt_cmpR (op_gEq (K := K) rfl hr.units) (pv 1) pe_int (nomark _)) (pss_one (ps_ret (pe_op op_gSub (pe_call (ok_law_draw T) (hr.mono (by decide)) rfl T.m_law_draw T.k_law_draw T.b_law_draw .nil pass0 (pa_cons (pv 0) (pa_cons pe_int pa_nil))) pe_int))) pss_nil)
      (pss_cons (ps_if (pt_cmpR (op_gEq (K := K) rfl hr.units) (pv 1) pe_int (nomark _)) (pss_one (ps_ret (pe_op op_gSub (pe_call (ok_law_draw T) (hr.mono (by decide)) rfl T.m_law_draw T.k_law_draw T.b_law_draw .nil pass0 (pa_cons (pv 0) (pa_cons pe_int pa_nil))) pe_int))) pss_nil)
      (pss_cons (ps_set (i := 2) sc_law_number.nd rfl (.inl rfl) pe_int)
      (pss_cons (ps_for PassesOwn.never rfl (pi_range1 (by rfl) T.n_range (pa_cons pe_int pa_nil)) (pg_name (i := 3) sc_law_number.nd rfl (.inl rfl)) (pss_one (ps_set (i := 2) sc_law_number.nd rfl (.inl rfl) (pe_op op_gAdd (pe_op op_gMul (pv 2) (pe_op op_gPow pe_int pe_int)) (pe_call (ok_law_draw T) (hr.mono (by decide)) rfl T.m_law_draw T.k_law_draw T.b_law_draw .nil pass0 (pa_cons (pv 0) (pa_cons (pe_op op_gPow pe_int pe_int) pa_nil)))))))
      (pss_cons (ps_set (i := 2) sc_law_number.nd rfl (.inl rfl) (pe_op op_gMod (pe_callTy call_gInt (by rfl) T.n_int (by decide +kernel) (pa_cons (pv 2) pa_nil)) (pe_op op_gPow pe_int pe_int)))
      (pss_one (ps_ret (pe_ifExp (pt_cmpR (op_gEq (K := K) rfl hr.units) (pv 1) pe_int (nomark _)) (pv 2) (pe_un un_gNeg (pv 2))))))))))), ?_⟩
    walk_at "v"
    refine r_ifD (fun e0 => ?_) (fun e0 => ?_)
    · walk_at "v"
      exact k _ _ (by omega) (by omega) (by assumption)
    · walk_at "v"
      refine r_ifD (fun e1 => ?_) (fun e1 => ?_)
      · walk_at "v"
        exact k _ _ (by omega) (by omega) (by assumption)
      · walk_at "v"
        try refine r_forR1 ?_
        walk_at "v"
        rename_i r H1 r0 r8 S1
        refine forR (by omega) (by omega) (fun i σ H => ∃ (a : Option V) (n : Int), σ = [some (.ref s), some (.int r), some (.int n), a] ∧ Sep (Src s :: fr) H) ⟨_, _, rfl, S1⟩ ?_ ?_
        · rintro i σ H2 hi ⟨a, n, rfl, S2⟩
          walk_at "v"
          exact ⟨_, _, rfl, by assumption⟩
        · rintro σ H2 ⟨a, n, rfl, S2⟩
          walk_at "v"
          rename_i r2 _ h0 h1
          refine r_ifD (fun e2 => ?_) (fun e2 => ?_)
          · walk_at "v"
            exact k _ _ (by omega) (by omega) S2
          · walk_at "v"
            exact k _ _ (by omega) (by omega) S2
local macro_rules | `(tactic| walk_at "v1") => `(tactic| ((with_reducible refine' c_number (by assumption) ?hi ?_); (case hi => walk_at "has"); intro _ _ _ _ _))
/-! law_pairs -/
def sp_law_pairs : Sp := fun vs H Q _ => ∃ (s : Addr) (m : Int) (fr : List Asn), vs = [.ref s, .int m] ∧ 0 ≤ m ∧ m < 1000 ∧ Sep (Src s :: fr) H ∧ ∀ (a : Addr) (ps : List (Str × Int)) (H' : Hp), Gp ps → (ps.length : Int) ≤ m → Sep (LD a (pds ps) :: Src s :: fr) H' → Q (.ref a) H'
theorem c_pairs {l : List Asn} {H : Hp} {i : Nat} {s : Addr} {m : Int} {Q : VK} {E : XK} (S : Sep l H) (e : l[i]? = some (Src s)) (h0 : 0 ≤ m) (h1 : m < 1000) (k : ∀ (a : Addr) (ps : List (Str × Int)) (H' : Hp), Gp ps → (ps.length : Int) ≤ m → Sep (LD a (pds ps) :: l) H' → Q (.ref a) H') : sp_law_pairs [.ref s, .int m] H Q E :=
  ⟨s, m, _, rfl, h0, h1, S.pick e, fun a ps H' g b S' => k a ps H' g b (Sep.backS (i := i + 1) (l := LD a (pds ps) :: _) e S'.fr1)⟩
theorem ok_law_pairs (T : Txt K mg A) : FnOk P w K mg base CX0 4 A.f_law_pairs A.fd_law_pairs ["source", "most"] (sp_law_pairs) := by
  refine T.F_law_pairs.ok sc_law_pairs (fun vs H Q E h => ?_) (fun cdv A' outer s0 H vs Q E hr h => ?_)
  · obtain ⟨s, m, fr, rfl, _⟩ := h
    rfl
  · obtain ⟨s, m, fr, rfl, m0, m1, S, k⟩ := h
    refine ⟨_, (pss_cons (ps_set (i := 2) sc_law_pairs.nd rfl (.inl rfl) (pe_lst pa_nil))
      (pss_cons (ps_for PassesOwn.never rfl (pi_range1 (by rfl) T.n_range (pa_cons (pe_call (ok_law_draw T) (hr.mono (by decide)) rfl T.m_law_draw T.k_law_draw T.b_law_draw .nil pass0 (pa_cons (pv 0) (pa_cons (pe_op op_gAdd (pv 1) pe_int) pa_nil))) pa_nil)) (pg_name (i := 3) sc_law_pairs.nd rfl (.inl rfl)) (pss_cons (ps_set (i := 4) sc_law_pairs.nd rfl (.inl rfl) (pe_call (ok_law_word T) (hr.mono (by decide)) rfl T.m_law_word T.k_law_word T.b_law_word .nil pass0 (pa_cons (pv 0) pa_nil)))
      (pss_cut (ps_if (PW.pt (pw_and (pt_cmpR op_gGt (pe_callB (call_gLen (K := K) rfl) (by rfl) T.n_len (by decide +kernel) (pa_cons (pv 2) pa_nil)) pe_int (nomark _)) (pw_and1 (pt_cmpR (op_gEq (K := K) rfl hr.units) (pe_call (ok_law_draw T) (hr.mono (by decide)) rfl T.m_law_draw T.k_law_draw T.b_law_draw .nil pass0 (pa_cons (pv 0) (pa_cons pe_int pa_nil))) pe_int (nomark _))))) (pss_one (ps_set (i := 4) sc_law_pairs.nd rfl (.inl rfl) (pe_ix (ix_g (K := K) rfl) (pe_ix (ix_g (K := K) rfl) (pv 2) (pe_call (ok_law_draw T) (hr.mono (by decide)) rfl T.m_law_draw T.k_law_draw T.b_law_draw .nil pass0 (pa_cons (pv 0) (pa_cons (pe_callB (call_gLen (K := K) rfl) (by rfl) T.n_len (by decide +kernel) (pa_cons (pv 2) pa_nil)) pa_nil))) (fun _ _ => rfl)) pe_int (fun _ _ => rfl)))) pss_nil)
      (pss_one (ps_expr (pe_gBm (K := K) rfl PySem.F.plainAttrs_list PySem.F.slot_list_append PySem.F.type_list_append mt_append (pv 2) (pa_cons (pe_tup (pa_cons (pv 4) (pa_cons (pe_call (ok_law_number T) (hr.mono (by decide)) rfl T.m_law_number T.k_law_number T.b_law_number .nil pass0 (pa_cons (pv 0) pa_nil)) pa_nil))) pa_nil)))))))
      (pss_one (ps_ret (pv 2))))), ?_⟩
    walk_at "v"
    try refine r_forR1 ?_
    walk_at "v"
    rename_i a H1 S0 r H2 r0 r1 S1
    refine forR (by omega) (by omega) (fun i σ H => ∃ (vs : List V) (ps : List (Str × Int)) (b c : Option V), σ = [some (.ref s), some (.int m), some (.ref a), b, c] ∧ Gp ps ∧ vs.length = i ∧ ps.length = i ∧ Sep (At a (.lst vs) :: DVs vs (pds ps) :: Src s :: fr) H) ⟨[], [], _, _, rfl, fun x hx => (nomatch hx), rfl, rfl, (S1.addDs .nil).fr1⟩ ?_ ?_
    · rintro i σ H3 hi ⟨vs, ps, b, c, rfl, g, hv, hp, S3⟩
      walk_at "v"
      rename_i w H4 hw S4
      refine r_cut (fun σ' H' => ∃ w : Str, σ' = [some (.ref s), some (.int m), some (.ref a), some (.int (i : Int)), some (.str w)] ∧ Wd w ∧ Sep (At a (.lst vs) :: DVs vs (pds ps) :: Src s :: fr) H') ?_ ?_
      · walk_at "v"
        refine r_ifD (fun e0 => ?_) (fun e0 => ?_)
        · walk_at "v"
          refine r_ifD (fun e1 => ?_) (fun e1 => ?_)
          · walk_at "v"
            rename_i z H6 z0 z1 S6
            refine x_lstA S6 has0 z0 z1 fun v ev => ?_
            obtain ⟨q, x, ex, rfl, hq⟩ := ps_get (S6.dvs (i := 1) rfl) ev
            have S7 := S6.addT hq
            clear S6
            walk_at "v"
            exact ⟨_, rfl, (g x (List.mem_of_getElem? ex)).1, S7.tail⟩
          · walk_at "v"
            exact ⟨_, rfl, hw, by assumption⟩
        · walk_at "v"
          exact ⟨_, rfl, hw, by assumption⟩
      · rintro σ' H5 ⟨w, rfl, hw, S5⟩
        walk_at "v"
        rename_i n _ n0 n1 _ q _ S8 H9 S9
        refine ⟨vs ++ [.ref q], ps ++ [(w, n)], _, _, rfl, fun x hx => ?_, by rw [List.length_append, hv]; rfl, by rw [List.length_append, hp]; rfl, ?_⟩
        · rcases List.mem_append.1 hx with hx | hx
          · exact g x hx
          · rw [List.mem_singleton.1 hx]
            exact ⟨hw, n0, n1⟩
        · have h1 := IsDs.snoc (pair_isD (S9.tp (i := 0) rfl)) (S9.dvs (i := 2) rfl)
          have e : pds ps ++ [pd (w, n)] = pds (ps ++ [(w, n)]) := by simp
          rw [e] at h1
          exact ((S9.tail.dr1).addDs h1).fr1
    · rintro σ H3 ⟨vs, ps, b, c, rfl, g, hv, hp, S3⟩
      walk_at "v"
      refine k a ps _ g (by omega) (ld_close (S3.dvs (i := 1) rfl) S3.dr1)
/-! law_model -/
def sp_law_model : Sp := fun vs H Q _ => ∃ (a : Addr) (ps : List (Str × Int)) (fr : List Asn), vs = [.ref a] ∧ ps.length ≤ 1000 ∧ Sep (LD a (pds ps) :: fr) H ∧ ∀ (d : Addr) (m : List (Str × Int)) (H' : Hp), (keys m).Nodup → m.length ≤ ps.length → (∀ w, w ∈ keys m → w ∈ keys ps) → (∀ w, num m w = psum ps w) → Sep (At d (.dK (mp m)) :: LD a (pds ps) :: fr) H' → Q (.ref d) H'
theorem c_model {l : List Asn} {H : Hp} {i : Nat} {a : Addr} {ps : List (Str × Int)} {Q : VK} {E : XK} (S : Sep l H) (e : l[i]? = some (LD a (pds ps))) (h : ps.length ≤ 1000) (k : ∀ (d : Addr) (m : List (Str × Int)) (H' : Hp), (keys m).Nodup → m.length ≤ ps.length → (∀ w, w ∈ keys m → w ∈ keys ps) → (∀ w, num m w = psum ps w) → Sep (At d (.dK (mp m)) :: l) H' → Q (.ref d) H') : sp_law_model [.ref a] H Q E :=
  ⟨a, ps, _, rfl, h, S.pick e, fun d m H' h1 h2 h3 h4 S' => k d m H' h1 h2 h3 h4 (Sep.backS (i := i + 1) (l := At d (.dK (mp m)) :: _) e S'.fr1)⟩
theorem ok_law_model (T : Txt K mg A) : FnOk P w K mg base CX0 1 A.f_law_model A.fd_law_model ["pairs"] (sp_law_model) := by
  refine T.F_law_model.ok sc_law_model (fun vs H Q E h => ?_) (fun cdv A' outer s0 H vs Q E hr h => ?_)
  · obtain ⟨s, m, fr, rfl, _⟩ := h
    rfl
  · obtain ⟨a, ps, fr, rfl, hz, S, k⟩ := h
    obtain ⟨vs, hv, S1⟩ := ld_open S
    clear S
    refine ⟨_, (pss_cons (ps_set (i := 1) sc_law_model.nd rfl (.inl rfl) pe_dnewK)
      (pss_cons (ps_for PassesOwn.never rfl (pi_gList (K := K) rfl (pv 0)) (pg_gTup (K := K) rfl rfl (pgs_cons (pg_name (i := 2) sc_law_model.nd rfl (.inl rfl)) (pgs_cons (pg_name (i := 3) sc_law_model.nd rfl (.inl rfl)) pgs_nil))) (pss_one (ps_dput (hu_of hr) (pv 1) (pv 2) (pe_op op_gAdd (pe_dget2 (hu_of hr) (pv 1) (pv 2) pe_int ⟨by rfl, by rfl, by rfl, by rfl⟩) (pv 3)) rfl)))
      (pss_one (ps_ret (pv 1))))), ?_⟩
    walk_at "v"
    rename_i d H1 S2
    refine forL S2 (hasS has0) (fun i σ H => ∃ (m : List (Str × Int)) (b c : Option V), σ = [some (.ref a), some (.ref d), b, c] ∧ (keys m).Nodup ∧ m.length ≤ i ∧ (∀ w, w ∈ keys m → w ∈ keys (ps.take i)) ∧ (∀ w, num m w = psum (ps.take i) w) ∧ Sep (At d (.dK (mp m)) :: At a (.lst vs) :: DVs vs (pds ps) :: fr) H)
      ⟨[], _, _, rfl, List.nodup_nil, Nat.le_refl _, fun _ h => (nomatch h), fun _ => rfl, S2⟩ (fun i σ H ⟨m, b, c, _, _, _, _, _, S⟩ => S.at (i := 1) rfl) ?_ ?_
    · rintro i x σ H3 hx ⟨m, b, c, rfl, hn, hl, hk, hs, S3⟩
      obtain ⟨q, y, ey, rfl, hq⟩ := ps_get (S3.dvs (i := 2) rfl) hx
      have S4 := S3.addT hq
      have hi := get_lt ey
      clear S3
      walk_at "v"
      rename_i H5 S5
      have et : ps.take (i + 1) = ps.take i ++ [y] := by rw [List.take_add_one, ey]; rfl
      refine ⟨_, _, _, rfl, nodup_put hn _ _, Nat.le_trans (len_put _ _ _) (by omega), fun w hw => ?_, fun w => ?_, S5.tail⟩
      · rw [et]
        unfold keys
        rw [List.map_append]
        rcases mem_put hw with hw | hw
        · rw [hw]
          exact List.mem_append_right _ (by exact List.mem_singleton.2 rfl)
        · exact List.mem_append_left _ (hk w hw)
      · rw [num_put, et, psum_app, hs, hs]
        show _ = _ + ((if y.1 = w then y.2 else 0) + 0)
        by_cases h : w = y.1
        · rw [if_pos h, if_pos h.symm, h]; omega
        · rw [if_neg h, if_neg (fun z => h z.symm)]; omega
    · rintro σ H3 ⟨m, b, c, rfl, hn, hl, hk, hs, S3⟩
      walk_at "v"
      have e : ps.take vs.length = ps := List.take_of_length_le (by rw [ps_len hv]; exact Nat.le_refl _)
      rw [e] at hk hs
      exact k d m _ hn (by rw [← ps_len hv]; exact hl) hk hs (ld_close (S3.dvs (i := 2) rfl) (S3.dr2.fr1)).fr1
local macro_rules | `(tactic| walk_at "v1") => `(tactic| ((with_reducible refine' c_model (by assumption) ?hi ?hz ?_); (case hi => walk_at "has"); (case hz => omega); intro _ _ _ _ _ _ _ _))
/-! law_divisor -/
theorem mput_mem : ∀ {m : List (Str × Int)} {w : Str} {n : Int} {x : Str × Int}, x ∈ mput m w n → x = (w, n) ∨ x ∈ m
  | [], _, _, _, h => .inl (List.mem_singleton.1 h)
  | y :: m, w, n, x, h => by
    unfold mput at h
    by_cases e : y.1 = w
    · rw [if_pos e] at h
      rcases List.mem_cons.1 h with h | h
      · exact .inl (by rw [h, e])
      · exact .inr (List.mem_cons_of_mem _ h)
    · rw [if_neg e] at h
      rcases List.mem_cons.1 h with h | h
      · exact .inr (h ▸ List.mem_cons_self)
      · rcases mput_mem h with h | h
        · exact .inl h
        · exact .inr (List.mem_cons_of_mem _ h)
theorem gp_put {m : List (Str × Int)} {w : Str} {n : Int} (hg : Gp m) (hw : Wd w) (h1 : -(10 ^ 30) < n) (h2 : n < 10 ^ 30) : Gp (mput m w n) := fun x hx => by
  rcases mput_mem hx with rfl | hx
  · exact ⟨hw, h1, h2⟩
  · exact hg x hx
def sp_law_divisor (K : PySem.W.Frag) : Sp := fun vs H Q _ => ∃ (s a : Addr) (ps : List (Str × Int)) (fr : List Asn), vs = [.ref s, .ref a] ∧ Gp ps ∧ ps.length ≤ 100 ∧ Sep (Src s :: LD a (pds ps) :: fr) H ∧
  ∀ (d : Addr) (m : List (Str × Int)) (H' : Hp), (keys m).Nodup → m.length ≤ 4 → Gp m → (∀ x ∈ m, x.2 ≠ 0) → Sep (At d (.dK (mp m)) :: Src s :: LD a (pds ps) :: fr) H' → Q (.ref d) H'
theorem ok_law_divisor (T : Txt K mg A) : FnOk P w K mg base CX0 4 A.f_law_divisor A.fd_law_divisor ["source", "pairs"] (sp_law_divisor K) := by
  refine T.F_law_divisor.ok sc_law_divisor (fun vs H Q E h => ?_) (fun cdv A' outer s0 H vs Q E hr h => ?_)
  · obtain ⟨s, a, ps, fr, rfl, _⟩ := h
    rfl
  · obtain ⟨s, a, ps, fr, rfl, hg, hz, S, k⟩ := h
    obtain ⟨vs, hv, S1⟩ := ld_open (S.pick (i := 1) rfl)
    have hvl := ps_len hv
    clear S
    replace S1 : Sep (At a (.lst vs) :: DVs vs (pds ps) :: Src s :: fr) H := S1
    refine ⟨_, (pss_cons (ps_set (i := 2) sc_law_divisor.nd rfl (.inl rfl) pe_dnewK)
      (pss_cons (ps_set (i := 3) sc_law_divisor.nd rfl (.inl rfl) (pe_cmpR (op_gEq (K := K) rfl hr.units) (pe_call (ok_law_draw T) (hr.mono (by decide)) rfl T.m_law_draw T.k_law_draw T.b_law_draw .nil pass0 (pa_cons (pv 0) (pa_cons pe_int pa_nil))) pe_int (nomark _)))
      (pss_cons (ps_for PassesOwn.never rfl (pi_range1 (by rfl) T.n_range (pa_cons (pe_call (ok_law_draw T) (hr.mono (by decide)) rfl T.m_law_draw T.k_law_draw T.b_law_draw .nil pass0 (pa_cons (pv 0) (pa_cons pe_int pa_nil))) pa_nil)) (pg_name (i := 4) sc_law_divisor.nd rfl (.inl rfl)) (pss_cons (ps_set (i := 5) sc_law_divisor.nd rfl (.inl rfl) (pe_call (ok_law_word T) (hr.mono (by decide)) rfl T.m_law_word T.k_law_word T.b_law_word .nil pass0 (pa_cons (pv 0) pa_nil)))
      (pss_cut (ps_if (PW.pt (pw_and (pt_cmpR op_gGt (pe_callB (call_gLen (K := K) rfl) (by rfl) T.n_len (by decide +kernel) (pa_cons (pv 1) pa_nil)) pe_int (nomark _)) (pw_and1 (pt_cmpR (op_gEq (K := K) rfl hr.units) (pe_call (ok_law_draw T) (hr.mono (by decide)) rfl T.m_law_draw T.k_law_draw T.b_law_draw .nil pass0 (pa_cons (pv 0) (pa_cons pe_int pa_nil))) pe_int (nomark _))))) (pss_one (ps_set (i := 5) sc_law_divisor.nd rfl (.inl rfl) (pe_ix (ix_g (K := K) rfl) (pe_ix (ix_g (K := K) rfl) (pv 1) (pe_call (ok_law_draw T) (hr.mono (by decide)) rfl T.m_law_draw T.k_law_draw T.b_law_draw .nil pass0 (pa_cons (pv 0) (pa_cons (pe_callB (call_gLen (K := K) rfl) (by rfl) T.n_len (by decide +kernel) (pa_cons (pv 1) pa_nil)) pa_nil))) (fun _ _ => rfl)) pe_int (fun _ _ => rfl)))) pss_nil)
      (pss_cons (ps_set (i := 6) sc_law_divisor.nd rfl (.inl rfl) (pe_op op_gAdd pe_int (pe_call (ok_law_draw T) (hr.mono (by decide)) rfl T.m_law_draw T.k_law_draw T.b_law_draw .nil pass0 (pa_cons (pv 0) (pa_cons pe_int pa_nil)))))
      (pss_cut (ps_if (pt_cmpR (op_gEq (K := K) rfl hr.units) (pe_call (ok_law_draw T) (hr.mono (by decide)) rfl T.m_law_draw T.k_law_draw T.b_law_draw .nil pass0 (pa_cons (pv 0) (pa_cons pe_int pa_nil))) pe_int (nomark _)) (pss_one (ps_set (i := 6) sc_law_divisor.nd rfl (.inl rfl) (pe_op op_gAdd pe_int (pe_call (ok_law_draw T) (hr.mono (by decide)) rfl T.m_law_draw T.k_law_draw T.b_law_draw .nil pass0 (pa_cons (pv 0) (pa_cons (pe_op op_gSub (pe_op op_gPow pe_int pe_int) pe_int) pa_nil)))))) pss_nil)
      (pss_cut (ps_if (PW.pt (pw_and (pt_tr (K := K) rfl (pv 3)) (pw_and1 (pt_cmpR (op_gEq (K := K) rfl hr.units) (pe_call (ok_law_draw T) (hr.mono (by decide)) rfl T.m_law_draw T.k_law_draw T.b_law_draw .nil pass0 (pa_cons (pv 0) (pa_cons pe_int pa_nil))) pe_int (nomark _))))) (pss_one (ps_set (i := 6) sc_law_divisor.nd rfl (.inl rfl) (pe_un un_gNeg (pv 6)))) pss_nil)
      (pss_one (ps_dput (hu_of hr) (pv 2) (pv 5) (pv 6) rfl))))))))
      (pss_one (ps_ret (pv 2)))))), ?_⟩
    walk_at "v"
    rename_i d H1 S2 below H2 b0 b1 S3 r H3 r0 r1 S4
    clear S1 S2 S3
    refine forR (by omega) (by omega) (fun i σ H => ∃ (m : List (Str × Int)) (b c e : Option V), σ = [some (.ref s), some (.ref a), some (.ref d), some (.bl (decide (below = 1))), b, c, e] ∧ (keys m).Nodup ∧ m.length ≤ i ∧ Gp m ∧ (∀ x ∈ m, x.2 ≠ 0) ∧ Sep (At d (.dK (mp m)) :: At a (.lst vs) :: DVs vs (pds ps) :: Src s :: fr) H) ⟨[], _, _, _, rfl, List.nodup_nil, Nat.le_refl _, fun x hx => (nomatch hx), fun x hx => (nomatch hx), S4⟩ ?_ ?_
    · rintro i σ H4 hi ⟨m, b, c, e, rfl, hn, hl, hgm, hnz, S5⟩
      clear S4
      walk_at "v"
      rename_i w0 H5 hw0 S6
      clear S5
      refine r_cut (fun σ H => ∃ w : Str, σ = [some (.ref s), some (.ref a), some (.ref d), some (.bl (decide (below = 1))), some (.int (i : Int)), some (.str w), e] ∧ Wd w ∧ Sep (At d (.dK (mp m)) :: At a (.lst vs) :: DVs vs (pds ps) :: Src s :: fr) H) ?_ ?_
      · walk_at "v"
        refine r_ifD (fun e0 => ?_) (fun e0 => ?_)
        · walk_at "v"
          refine r_ifD (fun e1 => ?_) (fun e1 => ?_)
          · walk_at "v"
            rename_i z H6 z0 z1 S7
            refine x_lstA S7 (e := 1) rfl z0 z1 fun v ev => ?_
            obtain ⟨q, x, ex, rfl, hq⟩ := ps_get (S7.dvs (i := 2) rfl) ev
            have S8 := S7.addT hq
            clear S6 S7
            walk_at "v"
            exact ⟨_, rfl, (hg x (List.mem_of_getElem? ex)).1, S8.tail⟩
          · walk_at "v"
            exact ⟨_, rfl, hw0, by assumption⟩
        · walk_at "v"
          exact ⟨_, rfl, hw0, by assumption⟩
      clear S6
      rintro σ H6 ⟨w, rfl, hw, S6⟩
      walk_at "v"
      rename_i n H7 n0 n1 S7
      clear S6
      refine r_cut (fun σ H => ∃ n : Int, σ = [some (.ref s), some (.ref a), some (.ref d), some (.bl (decide (below = 1))), some (.int (i : Int)), some (.str w), some (.int n)] ∧ (0 < n ∧ n < 10 ^ 30) ∧ Sep (At d (.dK (mp m)) :: At a (.lst vs) :: DVs vs (pds ps) :: Src s :: fr) H) ?_ ?_
      · walk_at "v"
        refine r_ifD (fun e0 => ?_) (fun e0 => ?_)
        · walk_at "v"
          rename_i y _ H9 y0 y1 S9
          exact ⟨_, rfl, ⟨by omega, by omega⟩, S9⟩
        · walk_at "v"
          exact ⟨_, rfl, ⟨by omega, by omega⟩, by assumption⟩
      clear S7
      rintro σ H8 ⟨n, rfl, hn1, S7⟩
      refine r_cut (fun σ H => ∃ n : Int, σ = [some (.ref s), some (.ref a), some (.ref d), some (.bl (decide (below = 1))), some (.int (i : Int)), some (.str w), some (.int n)] ∧ (n ≠ 0 ∧ -(10 ^ 30) < n ∧ n < 10 ^ 30) ∧ Sep (At d (.dK (mp m)) :: At a (.lst vs) :: DVs vs (pds ps) :: Src s :: fr) H) ?_ ?_
      · walk_at "v"
        refine r_ifD (fun e0 => ?_) (fun e0 => ?_)
        · walk_at "v"
          refine r_ifD (fun e1 => ?_) (fun e1 => ?_)
          · walk_at "v"
            exact ⟨_, rfl, ⟨by omega, by omega, by omega⟩, by assumption⟩
          · walk_at "v"
            exact ⟨_, rfl, ⟨by omega, by omega, by omega⟩, by assumption⟩
        · walk_at "v"
          exact ⟨_, rfl, ⟨by omega, by omega, by omega⟩, by assumption⟩
      clear S7
      rintro σ H9 ⟨n, rfl, hn2, S7⟩
      walk_at "v"
      rename_i H10 S8
      refine ⟨_, _, _, _, rfl, nodup_put hn _ _, Nat.le_trans (len_put _ _ _) (by omega), gp_put hgm hw hn2.2.1 hn2.2.2, fun x hx => ?_, S8⟩
      rcases mput_mem hx with rfl | hx
      · exact hn2.1
      · exact hnz x hx
    · rintro σ H4 ⟨m, b, c, e, rfl, hn, hl, hgm, hnz, S5⟩
      walk_at "v"
      refine k d m _ hn (by omega) hgm hnz ?_
      have S6 : Sep (LD a (pds ps) :: At d (.dK (mp m)) :: Src s :: fr) H4 := ld_close (S5.dvs (i := 2) rfl) (show Sep (At a (.lst vs) :: At d (.dK (mp m)) :: Src s :: fr) H4 from (S5.reord [1]).drops [2])
      exact S6.reord [1, 1]
theorem c_divisor {K : PySem.W.Frag} {l : List Asn} {H : Hp} {i j : Nat} {s a : Addr} {ps : List (Str × Int)} {Q : VK} {E : XK} (S : Sep l H) (e : l[i]? = some (LD a (pds ps))) (e2 : (l.eraseIdx i)[j]? = some (Src s)) (hg : Gp ps) (hz : ps.length ≤ 100)
    (k : ∀ (d : Addr) (m : List (Str × Int)) (H' : Hp), (keys m).Nodup → m.length ≤ 4 → Gp m → (∀ x ∈ m, x.2 ≠ 0) → Sep (At d (.dK (mp m)) :: l) H' → Q (.ref d) H') : sp_law_divisor K [.ref s, .ref a] H Q E :=
  ⟨s, a, ps, (l.eraseIdx i).eraseIdx j, rfl, hg, hz, (S.pick e).pick (i := j + 1) e2, fun d m H' h1 h2 h3 h4 S' => k d m H' h1 h2 h3 h4 (Sep.backS (i := i + 1) (l := At d (.dK (mp m)) :: l) e (Sep.backS (i := j + 2) (l := LD a (pds ps) :: At d (.dK (mp m)) :: l.eraseIdx i) e2 (show Sep (Src s :: LD a (pds ps) :: At d (.dK (mp m)) :: (l.eraseIdx i).eraseIdx j) H' from S'.reord [1, 1])))⟩
/-! is_word -/
def isWd (w : Str) : Bool := decide (Wd w)
def sp_is_word (K : PySem.W.Frag) : Sp := fun vs H Q _ => ∃ (x : V) (fr : List Asn), vs = [x] ∧ Sep fr H ∧
  ((∃ w : Str, x = .str w ∧ w.length ≤ 3000 ∧ ∀ H', Sep fr H' → Q (.bl (decide (Wd w))) H') ∨ ∃ t, TyX K H x t ∧ PySem.W.kitOne K t (.type "str") = some false ∧ Q (.bl false) H)
theorem c_is_word {K : PySem.W.Frag} {l : List Asn} {H : Hp} {w : Str} {Q : VK} {E : XK} (S : Sep l H) (hz : w.length ≤ 3000) (k : ∀ H', Sep l H' → Q (.bl (decide (Wd w))) H') : sp_is_word K [.str w] H Q E :=
  ⟨_, l, rfl, S, .inl ⟨w, rfl, hz, k⟩⟩
theorem c_is_wordN {K : PySem.W.Frag} {l : List Asn} {H : Hp} {x : V} {t : Value} {Q : VK} {E : XK} (S : Sep l H) (hx : TyX K H x t) (ht : PySem.W.kitOne K t (.type "str") = some false) (q : Q (.bl false) H) : sp_is_word K [x] H Q E :=
  ⟨_, l, rfl, S, .inr ⟨t, hx, ht, q⟩⟩
theorem ok_is_word (T : Txt K mg A) : FnOk P w K mg base CX0 1 A.f_is_word A.fd_is_word ["value"] (sp_is_word K) := by
  refine T.F_is_word.ok sc_is_word (fun vs H Q E h => ?_) (fun cdv A' outer s0 H vs Q E hr h => ?_)
  · obtain ⟨x, fr, rfl, _⟩ := h
    rfl
  · obtain ⟨x, fr, rfl, S, ⟨w, rfl, hz, k⟩ | ⟨t, hx, ht, q⟩⟩ := h
    · refine ⟨_, (pss_cons (ps_if (PW.pt (pw_or (pt_not (pt_val (pe_callB (call_gIsi (K := K) rfl) (by rfl) T.n_isinstance (by decide +kernel) (pa_cons (pv 0) (pa_cons (pe_bltn (v := .ty "str") (by rfl) T.n_str (by decide +kernel) rfl) pa_nil))))) (pw_or1 (pt_not (pt_chain op_gLe op_gLe pe_int (pe_callB (call_gLen (K := K) rfl) (by rfl) T.n_len (by decide +kernel) (pa_cons (pv 0) pa_nil)) pe_int))))) (pss_one (ps_ret pe_bl)) pss_nil)
      (pss_one (ps_ret (pe_callB (call_gAll (K := K) rfl rfl) (by rfl) T.n_all (by decide +kernel) (pa_cons (pe_lc (own := [("letter", 1)]) (g := (gName 1)) rfl sc_is_word.nd (pi_str (pv 0)) (blkOk_by (N := ["value", "letter"]) (sc := defScope s_is_word) (by decide +kernel)) (fun _ _ _ _ _ => (pg_name (i := 1) sc_is_word.nd rfl (.inl rfl))) (fun _ _ _ _ _ => pts_nil) (fun _ _ _ _ _ => (pe_cmpR (op_gIn (K := K) rfl) (pv 1) (pe_globE rfl T.e_LETTERS) (by rfl)))) pa_nil))))), ?_⟩
      walk_at "v"
      refine c_lenS (Nat.le_trans hz (by decide)) ?_
      walk_at "v"
      refine r_ifD (fun e0 => ?_) (fun e0 => ?_)
      · walk_at "v"
        refine r_ifN (fun e1 => ?_) (fun e1 => ?_)
        · walk_at "v"
          have hn : ¬ Wd w := fun z => e1 (by have := z.2.1; omega)
          rw [decide_eq_false hn] at k
          exact k _ S
        · walk_at "v"
          refine lcS S (fun D i H' => Sep (At D (.lst (((w.cps.toList.take i).map fun c => decide (c ∈ abc)).map V.bl)) :: fr) H') (fun D H' S' => S') ?_ ?_
          · intro D i c H1 hc S1
            have hc' : w.cps.toList[i]? = some c := by rw [Array.getElem?_toList]; exact hc
            have hi := get_lt hc'
            have hl : w.cps.toList.length = w.length := by simp [Str.length]
            refine lc_turn ?_
            walk_at "v"
            rename_i S2
            rw [take_snoc hc', List.map_append, List.map_append]
            exact S2
          · intro D H1 S1
            walk_at "v"
            have e : ((w.cps.toList.take w.cps.size).map fun c => decide (c ∈ abc)).all id = decide (Wd w) := by
              have hl : w.cps.toList.length = w.length := by simp [Str.length]
              have hz : w.cps.size = w.cps.toList.length := by simp
              rw [hz, List.take_length]
              by_cases hw : Wd w
              · rw [decide_eq_true hw, List.all_map, List.all_eq_true]
                exact fun c hc => decide_eq_true (hw.2.2 c hc)
              · rw [decide_eq_false hw, List.all_map]
                refine Bool.eq_false_iff.2 fun z => hw ⟨by omega, by omega, fun c hc => ?_⟩
                exact of_decide_eq_true (List.all_eq_true.1 z c hc)
            rw [e]
            exact k _ S1.tail
      · walk_at "v"
        have hn : ¬ Wd w := fun z => e0 (by have := z.1; omega)
        rw [decide_eq_false hn] at k
        exact k _ S
    · refine ⟨_, (pss_cons (ps_if (PW.pt (pw_or (pt_not (pt_val (pe_callB (call_gIsi (K := K) rfl) (by rfl) T.n_isinstance (by decide +kernel) (pa_cons (pv 0) (pa_cons (pe_bltn (v := .ty "str") (by rfl) T.n_str (by decide +kernel) rfl) pa_nil))))) (pw_or1 (pt_not (pt_chain op_gLe op_gLe pe_int (pe_callB (call_gLen (K := K) rfl) (by rfl) T.n_len (by decide +kernel) (pa_cons (pv 0) pa_nil)) pe_int))))) (pss_one (ps_ret pe_bl)) pss_nil)
      (pss_one (ps_ret (pe_callB (call_gAll (K := K) rfl rfl) (by rfl) T.n_all (by decide +kernel) (pa_cons (pe_lc (own := [("letter", 1)]) (g := (gName 1)) rfl sc_is_word.nd (pi_str (pv 0)) (blkOk_by (N := ["value", "letter"]) (sc := defScope s_is_word) (by decide +kernel)) (fun _ _ _ _ _ => (pg_name (i := 1) sc_is_word.nd rfl (.inl rfl))) (fun _ _ _ _ _ => pts_nil) (fun _ _ _ _ _ => (pe_cmpR (op_gIn (K := K) rfl) (pv 1) (pe_globE rfl T.e_LETTERS) (by rfl)))) pa_nil))))), ?_⟩
      walk_at "v"
      refine i_one (.ty "str") hx ht ?_
      walk_at "v"
      exact q
local macro_rules | `(tactic| walk_at "v1") => `(tactic| ((with_reducible refine' c_is_word (by assumption) ?hz ?_); (case hz => (first | assumption | omega)); intro _ _))
/-! BadWord___init__ -/
abbrev sp_BadWord___init__ (K : PySem.W.Frag) : Sp := sp_exi K "word"
theorem ok_BadWord___init__ (T : Txt K mg A) : FnOk P w K mg base CX0 1 A.f_BadWord___init__ A.fd_BadWord___init__ ["self", "word"] (sp_BadWord___init__ K) := by
  refine T.F_BadWord___init__.ok sc_BadWord___init__ (fun vs H Q E h => ?_) (fun cdv A' outer s0 H vs Q E hr h => ?_)
  · obtain ⟨a, C, x, rfl, _⟩ := h
    rfl
  · obtain ⟨a, C, x, rfl, hT, hn, ha, k⟩ := h
    refine ⟨_, (pss_one (ps_gOst (K := K) rfl (pv 0) (pv 1))), ?_⟩
    walk_at "v"
    exact ⟨a, C, rfl, hT, hn, .inl ⟨ha, fun dx h1 h2 => k dx h1 h2⟩⟩
/-! check_word -/
def sp_check_word (K : PySem.W.Frag) : Sp := fun vs H Q _ => ∃ (w : Str) (fr : List Asn), vs = [.str w] ∧ Wd w ∧ Sep fr H ∧ ∀ H', Sep fr H' → Q .non H'
theorem c_check_word {K : PySem.W.Frag} {l : List Asn} {H : Hp} {w : Str} {Q : VK} {E : XK} (S : Sep l H) (hw : Wd w) (k : ∀ H', Sep l H' → Q .non H') : sp_check_word K [.str w] H Q E := ⟨w, l, rfl, hw, S, k⟩
theorem ok_check_word (T : Txt K mg A) : FnOk P w K mg base CX0 3 A.f_check_word A.fd_check_word ["word"] (sp_check_word K) := by
  refine T.F_check_word.ok sc_check_word (fun vs H Q E h => ?_) (fun cdv A' outer s0 H vs Q E hr h => ?_)
  · obtain ⟨w, fr, rfl, _⟩ := h
    rfl
  · obtain ⟨w, fr, rfl, hw, S, k⟩ := h
    have hz : w.length ≤ 3000 := by have := hw.2.1; omega
    refine ⟨_, (pss_one (ps_if (pt_not (pt_val (pe_call (ok_is_word T) (hr.mono (by decide)) rfl T.m_is_word T.k_is_word T.b_is_word .nil pass0 (pa_cons (pv 0) pa_nil)))) (pss_one ps_never) pss_nil)), ?_⟩
    walk_at "v"
    exact k _ (by assumption)
local macro_rules | `(tactic| walk_at "v1") => `(tactic| ((with_reducible refine' c_check_word (by assumption) ?hw ?_); (case hw => assumption); intro _ _))
/-! is_number -/
def sp_is_number (K : PySem.W.Frag) : Sp := fun vs H Q _ => ∃ (x : V), vs = [x] ∧
  ((∃ n : Int, x = .int n ∧ Q (.bl true) H) ∨ (∃ b : Bool, x = .bl b ∧ Q (.bl false) H) ∨ ∃ t, TyX K H x t ∧ PySem.W.kitOne K t (.type "int") = some false ∧ Q (.bl false) H)
theorem c_is_number {K : PySem.W.Frag} {H : Hp} {n : Int} {Q : VK} {E : XK} (q : Q (.bl true) H) : sp_is_number K [.int n] H Q E := ⟨_, rfl, .inl ⟨n, rfl, q⟩⟩
theorem c_is_numberB {K : PySem.W.Frag} {H : Hp} {b : Bool} {Q : VK} {E : XK} (q : Q (.bl false) H) : sp_is_number K [.bl b] H Q E := ⟨_, rfl, .inr (.inl ⟨b, rfl, q⟩)⟩
theorem c_is_numberN {K : PySem.W.Frag} {H : Hp} {x : V} {t : Value} {Q : VK} {E : XK} (hx : TyX K H x t) (ht : PySem.W.kitOne K t (.type "int") = some false) (q : Q (.bl false) H) : sp_is_number K [x] H Q E := ⟨_, rfl, .inr (.inr ⟨t, hx, ht, q⟩)⟩
theorem ok_is_number (T : Txt K mg A) : FnOk P w K mg base CX0 1 A.f_is_number A.fd_is_number ["value"] (sp_is_number K) := by
  refine T.F_is_number.ok sc_is_number (fun vs H Q E h => ?_) (fun cdv A' outer s0 H vs Q E hr h => ?_)
  · obtain ⟨x, rfl, _⟩ := h
    rfl
  · obtain ⟨x, rfl, ⟨n, rfl, q⟩ | ⟨b, rfl, q⟩ | ⟨t, hx, ht, q⟩⟩ := h
    · refine ⟨_, (pss_one (ps_ret (pe_and (pe_callB (call_gIsi (K := K) rfl) (by rfl) T.n_isinstance (by decide +kernel) (pa_cons (pv 0) (pa_cons (pe_bltn (v := .ty "int") (by rfl) T.n_int (by decide +kernel) rfl) pa_nil))) (pe_one (pe_not (pe_callB (call_gIsi (K := K) rfl) (by rfl) T.n_isinstance (by decide +kernel) (pa_cons (pv 0) (pa_cons (pe_bltn (v := .ty "bool") (by rfl) T.n_bool (by decide +kernel) rfl) pa_nil)))))))), ?_⟩
      walk_at "v"
      exact q
    · refine ⟨_, (pss_one (ps_ret (pe_and (pe_callB (call_gIsi (K := K) rfl) (by rfl) T.n_isinstance (by decide +kernel) (pa_cons (pv 0) (pa_cons (pe_bltn (v := .ty "int") (by rfl) T.n_int (by decide +kernel) rfl) pa_nil))) (pe_one (pe_not (pe_callB (call_gIsi (K := K) rfl) (by rfl) T.n_isinstance (by decide +kernel) (pa_cons (pv 0) (pa_cons (pe_bltn (v := .ty "bool") (by rfl) T.n_bool (by decide +kernel) rfl) pa_nil)))))))), ?_⟩
      walk_at "v"
      exact q
    · refine ⟨_, (pss_one (ps_ret (pe_and (pe_callB (call_gIsi (K := K) rfl) (by rfl) T.n_isinstance (by decide +kernel) (pa_cons (pv 0) (pa_cons (pe_bltn (v := .ty "int") (by rfl) T.n_int (by decide +kernel) rfl) pa_nil))) (pe_one (pe_not (pe_callB (call_gIsi (K := K) rfl) (by rfl) T.n_isinstance (by decide +kernel) (pa_cons (pv 0) (pa_cons (pe_bltn (v := .ty "bool") (by rfl) T.n_bool (by decide +kernel) rfl) pa_nil)))))))), ?_⟩
      walk_at "v"
      refine i_one (.ty "int") hx ht ?_
      walk_at "v"
      exact q
local macro_rules | `(tactic| walk_at "v1") => `(tactic| (first | with_reducible refine c_is_number ?_ | with_reducible refine c_is_numberB ?_))
/-! is_short -/
def sp_is_short (K : PySem.W.Frag) : Sp := fun vs H Q _ => ∃ x : V, vs = [x] ∧ ((∃ n : Int, x = .int n ∧ Q (.bl (decide (-(10 ^ 30) < n ∧ n < 10 ^ 30))) H) ∨ (∃ b : Bool, x = .bl b ∧ Q (.bl false) H) ∨ ∃ t, TyX K H x t ∧ PySem.W.kitOne K t (.type "int") = some false ∧ Q (.bl false) H)
theorem c_is_short {K : PySem.W.Frag} {H : Hp} {n : Int} {Q : VK} {E : XK} (q : Q (.bl (decide (-(10 ^ 30) < n ∧ n < 10 ^ 30))) H) : sp_is_short K [.int n] H Q E := ⟨_, rfl, .inl ⟨n, rfl, q⟩⟩
theorem c_is_shortB {K : PySem.W.Frag} {H : Hp} {b : Bool} {Q : VK} {E : XK} (q : Q (.bl false) H) : sp_is_short K [.bl b] H Q E := ⟨_, rfl, .inr (.inl ⟨b, rfl, q⟩)⟩
theorem c_is_shortN {K : PySem.W.Frag} {H : Hp} {x : V} {t : Value} {Q : VK} {E : XK} (hx : TyX K H x t) (ht : PySem.W.kitOne K t (.type "int") = some false) (q : Q (.bl false) H) : sp_is_short K [x] H Q E := ⟨_, rfl, .inr (.inr ⟨t, hx, ht, q⟩)⟩
theorem ok_is_short (T : Txt K mg A) : FnOk P w K mg base CX0 2 A.f_is_short A.fd_is_short ["value"] (sp_is_short K) := by
  refine T.F_is_short.ok sc_is_short (fun vs H Q E h => ?_) (fun cdv A' outer s0 H vs Q E hr h => ?_)
  · obtain ⟨n, rfl, _⟩ := h
    rfl
  · obtain ⟨x, rfl, ⟨n, rfl, q⟩ | ⟨b, rfl, q⟩ | ⟨t, hx, ht, q⟩⟩ := h
    · refine ⟨_, (pss_one (ps_ret (pe_and (pe_call (ok_is_number T) (hr.mono (by decide)) rfl T.m_is_number T.k_is_number T.b_is_number .nil pass0 (pa_cons (pv 0) pa_nil)) (pe_one (pe_chain op_gLt op_gLt (pe_un un_gNeg (pe_globE rfl T.e_BEYOND)) (pv 0) (pe_globE rfl T.e_BEYOND)))))), ?_⟩
      walk_at "v"
      refine r_ifD (fun e0 => ?_) (fun e0 => ?_)
      · walk_at "v"
        by_cases e1 : n < 1000000000000000000000000000000
        · rw [decide_eq_true e1]
          rw [decide_eq_true (show -(10 ^ 30) < n ∧ n < 10 ^ 30 from ⟨by omega, by omega⟩)] at q
          exact q
        · rw [decide_eq_false e1]
          rw [decide_eq_false (show ¬ (-(10 ^ 30) < n ∧ n < 10 ^ 30) from fun z => e1 (by omega))] at q
          exact q
      · rw [decide_eq_false (show ¬ (-(10 ^ 30) < n ∧ n < 10 ^ 30) from fun z => e0 (by omega))] at q
        exact q
    · refine ⟨_, (pss_one (ps_ret (pe_and (pe_call (ok_is_number T) (hr.mono (by decide)) rfl T.m_is_number T.k_is_number T.b_is_number .nil pass0 (pa_cons (pv 0) pa_nil)) (pe_one (pe_chain op_gLt op_gLt (pe_un un_gNeg (pe_globE rfl T.e_BEYOND)) (pv 0) (pe_globE rfl T.e_BEYOND)))))), ?_⟩
      walk_at "v"
      exact q
    · refine ⟨_, (pss_one (ps_ret (pe_and (pe_call (ok_is_number T) (hr.mono (by decide)) rfl T.m_is_number T.k_is_number T.b_is_number .nil pass0 (pa_cons (pv 0) pa_nil)) (pe_one (pe_chain op_gLt op_gLt (pe_un un_gNeg (pe_globE rfl T.e_BEYOND)) (pv 0) (pe_globE rfl T.e_BEYOND)))))), ?_⟩
      walk_at "v"
      refine c_is_numberN hx ht ?_
      walk_at "v"
      exact q
local macro_rules | `(tactic| walk_at "v1") => `(tactic| (with_reducible refine c_is_short ?_))
/-! BadNumber___init__ -/
abbrev sp_BadNumber___init__ (K : PySem.W.Frag) : Sp := sp_exi K "number"
theorem ok_BadNumber___init__ (T : Txt K mg A) : FnOk P w K mg base CX0 1 A.f_BadNumber___init__ A.fd_BadNumber___init__ ["self", "number"] (sp_BadNumber___init__ K) := by
  refine T.F_BadNumber___init__.ok sc_BadNumber___init__ (fun vs H Q E h => ?_) (fun cdv A' outer s0 H vs Q E hr h => ?_)
  · obtain ⟨a, C, x, rfl, _⟩ := h
    rfl
  · obtain ⟨a, C, x, rfl, hT, hn, ha, k⟩ := h
    refine ⟨_, (pss_one (ps_gOst (K := K) rfl (pv 0) (pv 1))), ?_⟩
    walk_at "v"
    exact ⟨a, C, rfl, hT, hn, .inl ⟨ha, fun dx h1 h2 => k dx h1 h2⟩⟩
/-! check_number -/
def sp_check_number (K : PySem.W.Frag) : Sp := fun vs H Q _ => ∃ n : Int, vs = [.int n] ∧ (-(10 ^ 30) < n ∧ n < 10 ^ 30) ∧ Q .non H
theorem c_check_number {K : PySem.W.Frag} {H : Hp} {n : Int} {Q : VK} {E : XK} (hb : -(10 ^ 30) < n ∧ n < 10 ^ 30) (q : Q .non H) : sp_check_number K [.int n] H Q E := ⟨n, rfl, hb, q⟩
theorem ok_check_number (T : Txt K mg A) : FnOk P w K mg base CX0 3 A.f_check_number A.fd_check_number ["number"] (sp_check_number K) := by
  refine T.F_check_number.ok sc_check_number (fun vs H Q E h => ?_) (fun cdv A' outer s0 H vs Q E hr h => ?_)
  · obtain ⟨n, rfl, _⟩ := h
    rfl
  · obtain ⟨n, rfl, hb, q⟩ := h
    refine ⟨_, (pss_one (ps_if (pt_not (pt_val (pe_call (ok_is_short T) (hr.mono (by decide)) rfl T.m_is_short T.k_is_short T.b_is_short .nil pass0 (pa_cons (pv 0) pa_nil)))) (pss_one ps_never) pss_nil)), ?_⟩
    walk_at "v"
    exact q
local macro_rules | `(tactic| walk_at "v1") => `(tactic| ((with_reducible refine c_check_number ?hb ?_); (case hb => (first | assumption | (constructor <;> omega)))))
/-- not an integer of at most thirty digits: another scalar -/
def NoShort (x : V) : Prop := (∃ n : Int, x = .int n ∧ ¬ (-(10 ^ 30) < n ∧ n < 10 ^ 30)) ∨ (∃ b, x = .bl b) ∨ x = .non ∨ ∃ z, x = .str z
def spX_check_number (K : PySem.W.Frag) (A : Ad) : Sp := fun vs H Q E => ∃ x : V, vs = [x] ∧ ((∃ n : Int, x = .int n ∧ (-(10 ^ 30) < n ∧ n < 10 ^ 30) ∧ Q .non H) ∨ (NoShort x ∧ ∃ fr, Sep fr H ∧ ∀ d H', Sep (At d (.xd [("number", x)]) :: fr) H' → E (.ref A.c_BadNumber) (some d) H'))
theorem okX_check_number (T : Txt K mg A) : FnOk P w K mg base (L2.CX P w) 3 A.f_check_number A.fd_check_number ["number"] (spX_check_number K A) := by
  refine T.F_check_number.okX sc_check_number (fun vs H Q E h => ?_) (fun cdv A' outer s0 H vs Q E hr h => ?_)
  · obtain ⟨n, rfl, _⟩ := h
    rfl
  · obtain ⟨x, rfl, ⟨n, rfl, hb, q⟩ | ⟨hx, fr, S, k⟩⟩ := h
    · refine ⟨_, (pss_one (ps_if (pt_not (pt_val (pe_call (ok_is_short T) (hr.mono (by decide)) rfl T.m_is_short T.k_is_short T.b_is_short .nil pass0 (pa_cons (pv 0) pa_nil)))) (pss_one (ps_gRaise rfl (takes_of rfl rfl rfl rfl) (pmk_oex T.ox_BadNumber T.oi_BadNumber T.ot_BadNumber (ok_BadNumber___init__ (K := K) T) (hr.mono (by decide)) T.b_BadNumber___init__ .nil pass0 rfl T.vm_BadNumber (pa_cons (pv 0) pa_nil)))) pss_nil)), ?_⟩
      walk_at "v"
      exact q
    · have hmk : gMkO A.c_BadNumber (sp_BadNumber___init__ K) [] [x] H fun cls d H' => E cls d H' := mk_one S T.ox_BadNumber T.xn_BadNumber_number k
      rcases hx with ⟨n, rfl, hn⟩ | ⟨b, rfl⟩ | rfl | ⟨z, rfl⟩
      · refine ⟨_, (pss_one (ps_if (pt_not (pt_val (pe_call (ok_is_short T) (hr.mono (by decide)) rfl T.m_is_short T.k_is_short T.b_is_short .nil pass0 (pa_cons (pv 0) pa_nil)))) (pss_one (ps_gRaise rfl (takes_of rfl rfl rfl rfl) (pmk_oex T.ox_BadNumber T.oi_BadNumber T.ot_BadNumber (ok_BadNumber___init__ (K := K) T) (hr.mono (by decide)) T.b_BadNumber___init__ .nil pass0 rfl T.vm_BadNumber (pa_cons (pv 0) pa_nil)))) pss_nil)), ?_⟩
        walk_at "v"
        exact hmk
      · refine ⟨_, (pss_one (ps_if (pt_not (pt_val (pe_call (ok_is_short T) (hr.mono (by decide)) rfl T.m_is_short T.k_is_short T.b_is_short .nil pass0 (pa_cons (pv 0) pa_nil)))) (pss_one (ps_gRaise rfl (takes_of rfl rfl rfl rfl) (pmk_oex T.ox_BadNumber T.oi_BadNumber T.ot_BadNumber (ok_BadNumber___init__ (K := K) T) (hr.mono (by decide)) T.b_BadNumber___init__ .nil pass0 rfl T.vm_BadNumber (pa_cons (pv 0) pa_nil)))) pss_nil)), ?_⟩
        walk_at "v"
        refine c_is_shortB ?_
        walk_at "v"
        exact hmk
      · refine ⟨_, (pss_one (ps_if (pt_not (pt_val (pe_call (ok_is_short T) (hr.mono (by decide)) rfl T.m_is_short T.k_is_short T.b_is_short .nil pass0 (pa_cons (pv 0) pa_nil)))) (pss_one (ps_gRaise rfl (takes_of rfl rfl rfl rfl) (pmk_oex T.ox_BadNumber T.oi_BadNumber T.ot_BadNumber (ok_BadNumber___init__ (K := K) T) (hr.mono (by decide)) T.b_BadNumber___init__ .nil pass0 rfl T.vm_BadNumber (pa_cons (pv 0) pa_nil)))) pss_nil)), ?_⟩
        walk_at "v"
        refine c_is_shortN (.base .non) (kit_ty k_ni) ?_
        walk_at "v"
        exact hmk
      · refine ⟨_, (pss_one (ps_if (pt_not (pt_val (pe_call (ok_is_short T) (hr.mono (by decide)) rfl T.m_is_short T.k_is_short T.b_is_short .nil pass0 (pa_cons (pv 0) pa_nil)))) (pss_one (ps_gRaise rfl (takes_of rfl rfl rfl rfl) (pmk_oex T.ox_BadNumber T.oi_BadNumber T.ot_BadNumber (ok_BadNumber___init__ (K := K) T) (hr.mono (by decide)) T.b_BadNumber___init__ .nil pass0 rfl T.vm_BadNumber (pa_cons (pv 0) pa_nil)))) pss_nil)), ?_⟩
        walk_at "v"
        refine c_is_shortN (.base (.str z)) (kit_ty k_si) ?_
        walk_at "v"
        exact hmk
theorem x_check_number {K : PySem.W.Frag} {A : Ad} {H : Hp} {n : Int} {Q : VK} {E : XK} (hb : -(10 ^ 30) < n ∧ n < 10 ^ 30) (q : Q .non H) : spX_check_number K A [.int n] H Q E := ⟨_, rfl, .inl ⟨n, rfl, hb, q⟩⟩
theorem x_check_numberN {K : PySem.W.Frag} {A : Ad} {l : List Asn} {H : Hp} {x : V} {Q : VK} {E : XK} (S : Sep l H) (hx : NoShort x) (k : ∀ d H', Sep (At d (.xd [("number", x)]) :: l) H' → E (.ref A.c_BadNumber) (some d) H') : spX_check_number K A [x] H Q E := ⟨_, rfl, .inr ⟨hx, l, S, k⟩⟩
/-! Counts___init__ -/
def sp_Counts___init__ (K : PySem.W.Frag) : Sp := fun vs H Q _ => ∃ (x C d : Addr) (fr : List Asn), vs = [.ref x, .ref d] ∧ Kl K C cNs ∧ Sep (Ob x C [] :: At d (.dK []) :: fr) H ∧ ∀ H', Sep (Co x C (fun _ => 0) :: fr) H' → Q .non H'
theorem okR_Counts___init__ (T : Txt K mg A) : FnR P w K mg base CX0 4 A.f_Counts___init__ (kwSp 1 (sp_Counts___init__ K)) := by
  refine fun_kw0 (ps := ["self"]) (pd := "numbers") T.F_Counts___init__ sc_Counts___init__ (fun kV doc pm an cdv ct us hl => match us, hl with | [_], _ => rfl) (fun cdv A' outer s0 H vs Q E hr h => ?_)
  · obtain ⟨x, C, d, fr, rfl, hC, S, k⟩ := h
    refine ⟨_, (pss_cons (ps_lock (ps_for PassesOwn.never rfl (pi_items (pv 1)) (pg_gTup (K := K) rfl rfl (pgs_cons (pg_name (i := 2) sc_Counts___init__.nd rfl (.inl rfl)) (pgs_cons (pg_name (i := 3) sc_Counts___init__.nd rfl (.inl rfl)) pgs_nil))) (pss_cons (ps_expr (pe_call (ok_check_word T) (hr.mono (by decide)) rfl T.m_check_word T.k_check_word T.b_check_word .nil pass0 (pa_cons (pv 2) pa_nil)))
      (pss_one (ps_expr (pe_call (ok_check_number T) (hr.mono (by decide)) rfl T.m_check_number T.k_check_number T.b_check_number .nil pass0 (pa_cons (pv 3) pa_nil)))))))
      (pss_one (ps_gFld (K := K) rfl (pv 0) (pe_lock (pe_dc (own := [("word", 2), ("number", 3)]) (g := (gTup K 2 (gCons (gName 2) (gCons (gName 3) gNil)))) rfl sc_Counts___init__.nd (pi_items (pv 1)) (blkOk_by (N := ["self", "numbers", "word", "number"]) (sc := defScope s_Counts___init__) (by decide +kernel)) (fun _ _ _ _ _ => (pg_gTup (K := K) rfl rfl (pgs_cons (pg_name (i := 2) sc_Counts___init__.nd rfl (.inl rfl)) (pgs_cons (pg_name (i := 3) sc_Counts___init__.nd rfl (.inl rfl)) pgs_nil)))) (fun _ _ _ _ _ => (pts_one (pt_cmpR (op_gNe (K := K) rfl hr.units) (pv 3) pe_int (nomark _)))) (fun _ _ _ _ _ => (pv 2)) (fun _ _ _ _ _ => (pv 3)))) rfl))), ?_⟩
    walk_at "v"
    refine forI S (hasS has0) (fun od i σ H => i = 0 ∧ σ = [some (.ref x), some (.ref d), none, none] ∧ Sep (Ob x C [] :: At d (.frz od (.dK [])) :: fr) H) (fun od H' S' => ⟨rfl, rfl, S'⟩) (fun od i σ H ⟨_, _, S'⟩ => S'.at (i := 1) rfl) ?_ ?_ (var_at rfl)
    · intro od i k' v T σ H H' hi
      cases hi
    · rintro od σ H1 ⟨_, rfl, S1⟩
      have S2 := S1.upd (i := 1) rfl (o' := .dK []) (fun _ z => nomatch z)
      generalize upd H1 d (.dK []) = H2 at S2 ⊢
      walk_at "v"
      refine dcI0 S2 (hasS has0) (var_at rfl) fun D H3 S3 => ?_
      walk_at "v"
      rename_i H4 S4
      exact k _ (co_close (m := []) ⟨List.nodup_nil, (fun _ z => nomatch z), by decide⟩ rfl (Sep.dr2 S4.fr1))
theorem c_Counts0 {K : PySem.W.Frag} {l : List Asn} {H : Hp} {C : Addr} {P : Addr → Hp → Prop} {E : XK} (S : Sep l H) (hC : Kl K C cNs) (k : ∀ x H', Sep (Co x C (fun _ => 0) :: l) H' → P x H') :
    ∀ x dx, H x = Option.none → H dx = Option.none → dx ≠ x → kwSp 1 (sp_Counts___init__ K) [V.ref x] (upd (upd H dx (.own x)) x (.ins C dx [])) (fun v H2 => v = .non ∧ P x H2) E :=
  n_make (P := fun x H' => kwSp 1 (sp_Counts___init__ K) [V.ref x] H' (fun v H2 => v = .non ∧ P x H2) E) S fun x H1 S1 =>
    ⟨rfl, fun d hd => ⟨x, C, d, l, rfl, hC, (S1.new hd).fr1, fun H3 S3 => ⟨rfl, k x H3 S3⟩⟩⟩
def Gq (m : List (Str × Int)) : Prop := ∀ x ∈ m, Wd x.1 ∧ -(10 ^ 30) < x.2 ∧ x.2 < 10 ^ 30
def spX_Counts___init__ (K : PySem.W.Frag) (A : Ad) : Sp := fun vs H Q E => ∃ (x C d : Addr) (m : List (Str × Int)) (fr : List Asn), vs = [.ref x, .ref d] ∧ Kl K C cNs ∧ Gq m ∧ (keys m).Nodup ∧ m.length ≤ 60 ∧ Sep (Ob x C [] :: At d (.dK (mp m)) :: fr) H ∧ ∀ H', Sep (Co x C (num m) :: fr) H' → Q .non H'
theorem okK_Counts___init__ (T : Txt K mg A) (ks : List Str) (hks : ks.Nodup) (hkz : ks.length ≤ 900) (bind : ∀ (kV doc pm : Value) (an : Option Addr) (cdv ct : Value) (us ws : List Value), us.length = (["self"] : List Str).length → ws.length = ks.length → bindArgs (PySem.W.fnOf "__init__" "Counts.__init__" (defArgs s_Counts___init__) (defBody s_Counts___init__) (defScope s_Counts___init__) .none kV doc pm an cdv ct) ⟨us, ks.zip ws⟩ = ((alloc ({ cls := .type "dict", data := .dict #[] } : Obj) : Sem Addr) >>= fun d => kwFill d (ks.zip ws) >>= fun _ => pure ((["self"] : List Str).zip us ++ [(("numbers" : Str), Value.ref d)]))) : FnK P w K mg base (L2.CX P w) 4 A.f_Counts___init__ ks (kwSpN 1 ks (spX_Counts___init__ K A)) := by
  refine fun_kwN (ps := ["self"]) (pd := "numbers") ks hks hkz T.F_Counts___init__ sc_Counts___init__ bind (fun cdv A' outer s0 H vs Q E hr h => ?_)
  · obtain ⟨x, C, d, m, fr, rfl, hC, hg, hn, hz, S, k⟩ := h
    refine ⟨_, (pss_cons (ps_lock (ps_for (passes_of rfl) rfl (pi_items (pv 1)) (pg_gTup (K := K) rfl rfl (pgs_cons (pg_name (i := 2) sc_Counts___init__.nd rfl (.inl rfl)) (pgs_cons (pg_name (i := 3) sc_Counts___init__.nd rfl (.inl rfl)) pgs_nil))) (pss_cons (ps_expr (pe_call (ok_check_word T) (hr.mono (by decide)) rfl T.m_check_word T.k_check_word T.b_check_word .nil pass0 (pa_cons (pv 2) pa_nil)))
      (pss_one (ps_expr (pe_call (ok_check_number T) (hr.mono (by decide)) rfl T.m_check_number T.k_check_number T.b_check_number .nil pass0 (pa_cons (pv 3) pa_nil)))))))
      (pss_one (ps_gFld (K := K) rfl (pv 0) (pe_lock (pe_dc (own := [("word", 2), ("number", 3)]) (g := (gTup K 2 (gCons (gName 2) (gCons (gName 3) gNil)))) rfl sc_Counts___init__.nd (pi_items (pv 1)) (blkOk_by (N := ["self", "numbers", "word", "number"]) (sc := defScope s_Counts___init__) (by decide +kernel)) (fun _ _ _ _ _ => (pg_gTup (K := K) rfl rfl (pgs_cons (pg_name (i := 2) sc_Counts___init__.nd rfl (.inl rfl)) (pgs_cons (pg_name (i := 3) sc_Counts___init__.nd rfl (.inl rfl)) pgs_nil)))) (fun _ _ _ _ _ => (pts_one (pt_cmpR (op_gNe (K := K) rfl hr.units) (pv 3) pe_int (nomark _)))) (fun _ _ _ _ _ => (pv 2)) (fun _ _ _ _ _ => (pv 3)))) rfl))), ?_⟩
    walk_at "v"
    refine forI S (hasS has0) (fun od i σ H => ∃ a b, σ = [some (.ref x), some (.ref d), a, b] ∧ Sep (Ob x C [] :: At d (.frz od (.dK (mp m))) :: fr) H) (fun od H' S' => ⟨_, _, rfl, S'⟩) (fun od i σ H ⟨_, _, _, S'⟩ => S'.at (i := 1) rfl) ?_ ?_ (var_at rfl)
    · rintro od i k' v T' σ H1 H2 hi ⟨a, b, rfl, S1⟩ hT rfl
      obtain ⟨w, n, ew, rfl, rfl⟩ := mp_at hi
      obtain ⟨hw, hb⟩ := hg _ (List.mem_of_getElem? ew)
      have S2 := S1.newT (xs := [.str w, .int n]) hT
      rw [show upd H1 T' (.tup [kV (.inr w), .int n]) = upd H1 T' (.tup [.str w, .int n]) from rfl]
      generalize upd H1 T' (.tup [.str w, .int n]) = H2 at S2 ⊢
      clear S S1
      walk_at "v"
      rename_i H5 S5
      exact ⟨_, _, rfl, S5.tail⟩
    · rintro od σ H1 ⟨a, b, rfl, S1⟩
      have S2 := S1.upd (i := 1) rfl (o' := .dK (mp m)) (fun _ z => nomatch z)
      generalize upd H1 d (.dK (mp m)) = H2 at S2 ⊢
      clear S S1
      walk_at "v"
      refine dcI S2 (hasS has0) (fun od D i H => Sep (At D (.dK (mp (nz (m.take i)))) :: Ob x C [] :: At d (.frz od (.dK (mp m))) :: fr) H) (fun od D H' S' => S') (fun od D i H S' => S'.at (i := 2) rfl) ?_ ?_ (var_at rfl)
      · rintro od D i k' v T' H3 H4 hi S3 hT rfl
        obtain ⟨w, n, ey, rfl, rfl⟩ := mp_at hi
        have S4 := S3.newT (xs := [.str w, .int n]) hT
        rw [show upd H3 T' (.tup [kV (.inr w), .int n]) = upd H3 T' (.tup [.str w, .int n]) from rfl]
        generalize upd H3 T' (.tup [.str w, .int n]) = H4 at S4 ⊢
        have ht := nz_turn hn ey
        have hnd : (keys (m.take i)).Nodup := by
          have e : keys (m.take i) = (keys m).take i := by unfold keys; rw [List.map_take]
          rw [e]; exact List.Nodup.sublist (List.take_sublist _ _) hn
        have hlen : (nz (m.take i)).length < 100000 := by
          have h1 := List.length_filter_le (fun x : Str × Int => decide (x.2 ≠ 0)) (m.take i)
          have h3 : (m.take i).length ≤ m.length := by rw [List.length_take]; omega
          show (List.filter _ _).length < 100000
          omega
        clear S2 S3
        refine dc_turn ?_
        walk_at "v"
        refine r_ifN (fun e0 => ?_) (fun e0 => ?_)
        · walk_at "v"
          refine dp_put S4 (hasS has0) (nz_nodup hnd) hlen fun H8 S8 => ?_
          rw [ht.1 e0]
          exact S8.tail
        · rw [ht.2 e0]
          exact S4.tail
      · rintro od D H3 S3
        rw [show (mp m).length = m.length by rw [List.length_map], List.take_length] at S3
        have S4 := S3.upd (i := 2) rfl (o' := .dK (mp m)) (fun _ z => nomatch z)
        generalize upd H3 d (.dK (mp m)) = H4 at S4 ⊢
        clear S2 S3
        walk_at "v"
        rename_i H5 S5
        exact k _ (co_close (nz_good hn (fun x hx => (hg x hx).1) (by omega)) (filt_num hn) (d := D) (S5.reord [1, 0]).dr2)
theorem x_Counts {K : PySem.W.Frag} {A : Ad} {l : List Asn} {H : Hp} {C : Addr} {ks : List Str} {zs : List V} {m : List (Str × Int)} {P : Addr → Hp → Prop} {E : XK} (S : Sep l H) (hC : Kl K C cNs) (hl : zs.length = ks.length) (hm : kwV ks zs = mp m) (hg : Gq m) (hn : (keys m).Nodup) (hz : m.length ≤ 60) (k : ∀ x H', Sep (Co x C (num m) :: l) H' → P x H') :
    ∀ x dx, H x = Option.none → H dx = Option.none → dx ≠ x → kwSpN 1 ks (spX_Counts___init__ K A) zs [V.ref x] (upd (upd H dx (.own x)) x (.ins C dx [])) (fun v H2 => v = .non ∧ P x H2) E :=
  n_make (P := fun x H' => kwSpN 1 ks (spX_Counts___init__ K A) zs [V.ref x] H' (fun v H2 => v = .non ∧ P x H2) E) S fun x H1 S1 =>
    ⟨rfl, hl, fun d hd => ⟨x, C, d, m, l, rfl, hC, hg, hn, hz, (by rw [hm]; exact (S1.new hd).fr1), fun H3 S3 => ⟨rfl, k x H3 S3⟩⟩⟩
/-! counts_of -/
def sp_counts_of (K : PySem.W.Frag) (A : Ad) : Sp := fun vs H Q _ => ∃ (a : Addr) (ps : List (Str × Int)) (fr : List Asn), vs = [.ref a] ∧ (keys ps).Nodup ∧ (∀ x ∈ ps, Wd x.1) ∧ ps.length ≤ 500 ∧ Sep (LD a (pds ps) :: fr) H ∧ ∀ p H', Sep (Co p A.c_Counts (num ps) :: LD a (pds ps) :: fr) H' → Q (.ref p) H'
theorem ok_counts_of (T : Txt K mg A) : FnOk P w K mg base CX0 6 A.f_counts_of A.fd_counts_of ["pairs"] (sp_counts_of K A) := by
  refine T.F_counts_of.ok sc_counts_of (fun vs H Q E h => ?_) (fun cdv A' outer s0 H vs Q E hr h => ?_)
  · obtain ⟨a, ps, fr, rfl, _⟩ := h
    rfl
  · obtain ⟨a, ps, fr, rfl, hn, hw, hz, S, k⟩ := h
    have kl := T.kl_Counts
    refine ⟨_, (pss_cons (ps_set (i := 1) sc_counts_of.nd rfl (.inl rfl) (pe_makeR0 T.mk_Counts (okR_Counts___init__ (K := K) T) (hr.mono (by decide)) rfl T.vm_Counts pass0))
      (pss_cons (ps_gFld (K := K) rfl (pv 1) (pe_dc (own := [("word", 2), ("number", 3)]) (g := (gTup K 2 (gCons (gName 2) (gCons (gName 3) gNil)))) rfl sc_counts_of.nd (pi_gList (K := K) rfl (pv 0)) (blkOk_by (N := ["pairs", "made", "word", "number"]) (sc := defScope s_counts_of) (by decide +kernel)) (fun _ _ _ _ _ => (pg_gTup (K := K) rfl rfl (pgs_cons (pg_name (i := 2) sc_counts_of.nd rfl (.inl rfl)) (pgs_cons (pg_name (i := 3) sc_counts_of.nd rfl (.inl rfl)) pgs_nil)))) (fun _ _ _ _ _ => (pts_one (pt_cmpR (op_gNe (K := K) rfl hr.units) (pv 3) pe_int (nomark _)))) (fun _ _ _ _ _ => (pv 2)) (fun _ _ _ _ _ => (pv 3))) rfl)
      (pss_one (ps_ret (pv 1))))), ?_⟩
    walk_at "v"
    refine c_Counts0 S kl fun x H3 S3 => ?_
    obtain ⟨d1, m1, hg1, he1, S4⟩ := co_open S3
    obtain ⟨vs, hvs, S5⟩ := ld_open (S4.pick (i := 2) rfl)
    walk_at "v"
    refine r_dcL ?_
    walk_at "v"
    have hl : vs.length = ps.length := ps_len hvs
    refine dcL S5 has0 (fun D i H => Sep (At D (.dK (mp (nz (ps.take i)))) :: At a (.lst vs) :: DVs vs (pds ps) :: Ob x A.c_Counts [("_numbers", .ref d1)] :: At d1 (.dK (mp m1)) :: fr) H) (fun D H' S' => S') (fun D i H S' => S'.at (i := 1) rfl) ?_ ?_
    · intro D i v H6 hv S6
      obtain ⟨q, y, ey, rfl, hqy⟩ := ps_get (S6.dvs (i := 2) rfl) hv
      have S7 := S6.addT hqy
      have ht := nz_turn hn ey
      have hnd : (keys (ps.take i)).Nodup := by
        have e : keys (ps.take i) = (keys ps).take i := by unfold keys; rw [List.map_take]
        rw [e]; exact List.Nodup.sublist (List.take_sublist _ _) hn
      have hlen : (nz (ps.take i)).length < 100000 := by
        have h1 := List.length_filter_le (fun x : Str × Int => decide (x.2 ≠ 0)) (ps.take i)
        have h2 := List.length_take_le i ps
        have h3 : (ps.take i).length ≤ ps.length := by rw [List.length_take]; omega
        show (List.filter _ _).length < 100000
        omega
      refine dc_turn ?_
      walk_at "v"
      refine r_ifN (fun e0 => ?_) (fun e0 => ?_)
      · walk_at "v"
        refine dp_put S7 (hasS has0) (nz_nodup hnd) hlen fun H8 S8 => ?_
        rw [ht.1 e0]
        exact S8.tail
      · rw [ht.2 e0]
        exact S6
    · intro D H6 S6
      rw [hl, List.take_length] at S6
      walk_at "v"
      rename_i H7 S7
      refine k x _ (co_close (nz_good hn hw hz) (filt_num hn) (d := D) ?_)
      have h2 := S7.dvs (i := 2) rfl
      have S8 : Sep (At a (.lst vs) :: Ob x A.c_Counts [("_numbers", .ref D)] :: At D (.dK (mp (nz ps))) :: fr) _ := (S7.reord [1, 2, 0]).dr3.dr3
      exact (ld_close h2 S8).reord [1, 1, 0]
theorem c_co_of {K : PySem.W.Frag} {A : Ad} {l : List Asn} {H : Hp} {i : Nat} {a : Addr} {ps : List (Str × Int)} {Q : VK} {E : XK} (S : Sep l H) (e : l[i]? = some (LD a (pds ps))) (hn : (keys ps).Nodup) (hw : ∀ x ∈ ps, Wd x.1) (hz : ps.length ≤ 500) (k : ∀ p H', Sep (Co p A.c_Counts (num ps) :: l) H' → Q (.ref p) H') : sp_counts_of K A [.ref a] H Q E :=
  ⟨a, ps, _, rfl, hn, hw, hz, S.pick e, fun p H' S' => k p H' (Sep.backS (i := i + 1) (l := _ :: l) e (S'.reord [1]))⟩
/-! is_pair -/
def sp_is_pair (K : PySem.W.Frag) : Sp := fun vs H Q _ => ∃ (q : Addr) (x : Str × Int) (fr : List Asn), vs = [.ref q] ∧ (Wd x.1 ∧ -(10 ^ 30) < x.2 ∧ x.2 < 10 ^ 30) ∧ Sep (Tp q [.str x.1, .int x.2] :: fr) H ∧ ∀ H', Sep (Tp q [.str x.1, .int x.2] :: fr) H' → Q (.bl true) H'
theorem c_is_pair {K : PySem.W.Frag} {l : List Asn} {H : Hp} {i : Nat} {q : Addr} {x : Str × Int} {Q : VK} {E : XK} (S : Sep l H) (e : l[i]? = some (Tp q [.str x.1, .int x.2])) (hx : Wd x.1 ∧ -(10 ^ 30) < x.2 ∧ x.2 < 10 ^ 30) (k : ∀ H', Sep l H' → Q (.bl true) H') : sp_is_pair K [.ref q] H Q E :=
  ⟨q, x, _, rfl, hx, S.pick e, fun H' S' => k H' (Sep.backS e S')⟩
theorem ok_is_pair (T : Txt K mg A) : FnOk P w K mg base CX0 3 A.f_is_pair A.fd_is_pair ["value"] (sp_is_pair K) := by
  refine T.F_is_pair.ok sc_is_pair (fun vs H Q E h => ?_) (fun cdv A' outer s0 H vs Q E hr h => ?_)
  · obtain ⟨q, x, fr, rfl, _⟩ := h
    rfl
  · obtain ⟨q, ⟨w, n⟩, fr, rfl, ⟨hw, h0, h1⟩, S, k⟩ := h
    have hz : w.length ≤ 3000 := by have h := (show Wd w from hw).2.1; omega
    refine ⟨_, (pss_one (ps_ret (pe_and (pe_callB (call_gIsi (K := K) rfl) (by rfl) T.n_isinstance (by decide +kernel) (pa_cons (pv 0) (pa_cons (pe_bltn (v := .ty "tuple") (by rfl) T.n_tuple (by decide +kernel) rfl) pa_nil))) (pe_and (pe_cmpR (op_gEq (K := K) rfl hr.units) (pe_callB (call_gLen (K := K) rfl) (by rfl) T.n_len (by decide +kernel) (pa_cons (pv 0) pa_nil)) pe_int (nomark _)) (pe_and (pe_call (ok_is_word T) (hr.mono (by decide)) rfl T.m_is_word T.k_is_word T.b_is_word .nil pass0 (pa_cons (pe_ix (ix_g (K := K) rfl) (pv 0) pe_int (fun _ _ => rfl)) pa_nil)) (pe_one (pe_call (ok_is_short T) (hr.mono (by decide)) rfl T.m_is_short T.k_is_short T.b_is_short .nil pass0 (pa_cons (pe_ix (ix_g (K := K) rfl) (pv 0) pe_int (fun _ _ => rfl)) pa_nil)))))))), ?_⟩
    walk_at "v"
    have hd : decide (-10 ^ 30 < n ∧ n < 10 ^ 30) = true := decide_eq_true ⟨h0, h1⟩
    show Q (.bl (decide (-10 ^ 30 < n ∧ n < 10 ^ 30))) _
    rw [hd]
    exact k _ (by assumption)
local macro_rules | `(tactic| walk_at "v1") => `(tactic| ((with_reducible refine' c_is_pair (by assumption) ?hi ?hx ?_); (case hi => walk_at "has"); (case hx => assumption); intro _ _))
/-! Counts_of -/
def sp_Counts_of (K : PySem.W.Frag) (A : Ad) : Sp := fun vs H Q _ => ∃ (C a : Addr) (ps : List (Str × Int)) (fr : List Asn), vs = [.ref C, .ref a] ∧ Gp ps ∧ ps.length ≤ 64 ∧
  ((Sep (LD a (pds ps) :: fr) H ∧ ∀ p H', Sep (Co p A.c_Counts (psum ps) :: LD a (pds ps) :: fr) H' → Q (.ref p) H') ∨ ∃ ws, Sep (Tp a ws :: DVs ws (pds ps) :: fr) H ∧ ∀ p H', Sep (Co p A.c_Counts (psum ps) :: Tp a ws :: DVs ws (pds ps) :: fr) H' → Q (.ref p) H')
theorem ok_Counts_of (T : Txt K mg A) : FnOk P w K mg base CX0 7 A.f_Counts_of A.fd_Counts_of ["cls", "pairs"] (sp_Counts_of K A) := by
  refine T.F_Counts_of.ok sc_Counts_of (fun vs H Q E h => ?_) (fun cdv A' outer s0 H vs Q E hr h => ?_)
  · obtain ⟨C, a, ps, fr, rfl, _⟩ := h
    rfl
  · obtain ⟨C, a, ps, fr, rfl, hg, hz, h⟩ := h
    rcases h with ⟨S, k⟩ | ⟨vs, S, k⟩
    · obtain ⟨vs, hvs, S⟩ := ld_open S
      refine ⟨_, (pss_cons (ps_if (pt_not (pt_val (pe_callB (call_gIsi (K := K) rfl) (by rfl) T.n_isinstance (by decide +kernel) (pa_cons (pv 1) (pa_cons (pe_tup (pa_cons (pe_bltn (v := .ty "list") (by rfl) T.n_list (by decide +kernel) rfl) (pa_cons (pe_bltn (v := .ty "tuple") (by rfl) T.n_tuple (by decide +kernel) rfl) pa_nil))) pa_nil))))) (pss_one ps_never) pss_nil)
      (pss_cons (ps_for PassesOwn.never rfl (pi_enum (by rfl) T.n_enumerate (pa_cons (pv 1) pa_nil)) (pg_gTup (K := K) rfl rfl (pgs_cons (pg_name (i := 2) sc_Counts_of.nd rfl (.inl rfl)) (pgs_cons (pg_name (i := 3) sc_Counts_of.nd rfl (.inl rfl)) pgs_nil))) (pss_one (ps_if (pt_not (pt_val (pe_call (ok_is_pair T) (hr.mono (by decide)) rfl T.m_is_pair T.k_is_pair T.b_is_pair .nil pass0 (pa_cons (pv 3) pa_nil)))) (pss_one ps_never) pss_nil)))
      (pss_cons (ps_set (i := 4) sc_Counts_of.nd rfl (.inl rfl) pe_dnewK)
      (pss_cons (ps_for PassesOwn.never rfl (pi_gList (K := K) rfl (pv 1)) (pg_gTup (K := K) rfl rfl (pgs_cons (pg_name (i := 5) sc_Counts_of.nd rfl (.inl rfl)) (pgs_cons (pg_name (i := 6) sc_Counts_of.nd rfl (.inl rfl)) pgs_nil))) (pss_one (ps_dput (hu_of hr) (pv 4) (pv 5) (pe_op op_gAdd (pe_dget2 (hu_of hr) (pv 4) (pv 5) pe_int ⟨by rfl, by rfl, by rfl, by rfl⟩) (pv 6)) rfl)))
      (pss_one (ps_ret (pe_call (ok_counts_of T) (hr.mono (by decide)) rfl T.m_counts_of T.k_counts_of T.b_counts_of .nil pass0 (pa_cons (LiI.pe_listItems rfl (pv 4) (by rfl) T.n_list (by decide +kernel)) pa_nil)))))))), ?_⟩
      walk_at "v"
      rename_i q H1 S1
      refine i_LT S1 (hasS has0) has0 ?_
      walk_at "v"
      refine forE S1 (hasS has0) (fun i σ H => ∃ b c, σ = [some (.ref C), some (.ref a), b, c, none, none, none] ∧ Sep (At a (.lst vs) :: DVs vs (pds ps) :: fr) H) ⟨_, _, rfl, S1.tail⟩ (fun i σ H ⟨b, c, _, S'⟩ => S'.at (i := 0) rfl) ?_ ?_
      · rintro i x Tt σ H3 H4 hx ⟨b, c, rfl, S3⟩ hT rfl
        obtain ⟨qq, y, ey, rfl, hq⟩ := ps_get (S3.dvs (i := 1) rfl) hx
        have S4 := (S3.addT hq).newT (xs := [.int (i : Nat), .ref qq]) hT
        have hy := hg y (List.mem_of_getElem? ey)
        clear S S1 S3
        walk_at "v"
        exact ⟨_, _, rfl, (by assumption : Sep (_ :: _ :: _) _).tail.tail⟩
      · rintro σ H3 ⟨b, c, rfl, S3⟩
        clear S S1
        walk_at "v"
        rename_i d H5 S5
        refine forL S5 (hasS has0) (fun i σ H => ∃ (m : List (Str × Int)) (x y : Option V), σ = [some (.ref C), some (.ref a), b, c, some (.ref d), x, y] ∧ (keys m).Nodup ∧ m.length ≤ i ∧ (∀ w, w ∈ keys m → w ∈ keys (ps.take i)) ∧ (∀ w, num m w = psum (ps.take i) w) ∧ Sep (At d (.dK (mp m)) :: At a (.lst vs) :: DVs vs (pds ps) :: fr) H)
          ⟨[], _, _, rfl, List.nodup_nil, Nat.le_refl _, fun _ h => (nomatch h), fun _ => rfl, S5⟩ (fun i σ H ⟨m, _, _, _, _, _, _, _, S⟩ => S.at (i := 1) rfl) ?_ ?_
        · rintro i x σ H6 hx ⟨m, b', c', rfl, hn, hl, hk, hs, S6⟩
          obtain ⟨q', y, ey, rfl, hq⟩ := ps_get (S6.dvs (i := 2) rfl) hx
          have S7 := S6.addT hq
          have hi := get_lt ey
          clear S5 S6
          walk_at "v"
          rename_i H8 S8
          have et : ps.take (i + 1) = ps.take i ++ [y] := by rw [List.take_add_one, ey]; rfl
          refine ⟨_, _, _, rfl, nodup_put hn _ _, Nat.le_trans (len_put _ _ _) (by omega), fun w hw => ?_, fun w => ?_, S8.tail⟩
          · rw [et]
            unfold keys
            rw [List.map_append]
            rcases mem_put hw with hw | hw
            · rw [hw]
              exact List.mem_append_right _ (by exact List.mem_singleton.2 rfl)
            · exact List.mem_append_left _ (hk w hw)
          · rw [num_put, et, psum_app, hs, hs]
            show _ = _ + ((if y.1 = w then y.2 else 0) + 0)
            by_cases h : w = y.1
            · rw [if_pos h, if_pos h.symm, h]; omega
            · rw [if_neg h, if_neg (fun z => h z.symm)]; omega
        · rintro σ H6 ⟨m, b', c', rfl, hn, hl, hk, hs, S6⟩
          clear S5
          walk_at "v"
          rename_i pp H8 S8
          have e : ps.take vs.length = ps := List.take_of_length_le (by rw [ps_len hvs]; exact Nat.le_refl _)
          rw [e] at hk hs
          have hl2 := ps_len hvs
          refine ⟨pp, m, _, rfl, hn, fun x hx => ?_, by omega, S8, fun p' H9 S9 => ?_⟩
          · obtain ⟨y, hy, e⟩ := List.mem_map.1 (hk x.1 (List.mem_map_of_mem hx))
            rw [← e]
            exact (hg y hy).1
          · rw [funext hs] at S9
            have h2 := S9.dvs (i := 4) rfl
            exact k p' H9 ((ld_close h2 (S9.reord [3, 0]).dr2.dr2.dr2).reord [1, 0])
    · have hvs := S.dvs (i := 1) rfl
      refine ⟨_, (pss_cons (ps_if (pt_not (pt_val (pe_callB (call_gIsi (K := K) rfl) (by rfl) T.n_isinstance (by decide +kernel) (pa_cons (pv 1) (pa_cons (pe_tup (pa_cons (pe_bltn (v := .ty "list") (by rfl) T.n_list (by decide +kernel) rfl) (pa_cons (pe_bltn (v := .ty "tuple") (by rfl) T.n_tuple (by decide +kernel) rfl) pa_nil))) pa_nil))))) (pss_one ps_never) pss_nil)
      (pss_cons (ps_for PassesOwn.never rfl (pi_enumT (K := K) rfl (by rfl) T.n_enumerate (pa_cons (pv 1) pa_nil)) (pg_gTup (K := K) rfl rfl (pgs_cons (pg_name (i := 2) sc_Counts_of.nd rfl (.inl rfl)) (pgs_cons (pg_name (i := 3) sc_Counts_of.nd rfl (.inl rfl)) pgs_nil))) (pss_one (ps_if (pt_not (pt_val (pe_call (ok_is_pair T) (hr.mono (by decide)) rfl T.m_is_pair T.k_is_pair T.b_is_pair .nil pass0 (pa_cons (pv 3) pa_nil)))) (pss_one ps_never) pss_nil)))
      (pss_cons (ps_set (i := 4) sc_Counts_of.nd rfl (.inl rfl) pe_dnewK)
      (pss_cons (ps_for PassesOwn.never rfl (pi_gTup (K := K) rfl (pv 1)) (pg_gTup (K := K) rfl rfl (pgs_cons (pg_name (i := 5) sc_Counts_of.nd rfl (.inl rfl)) (pgs_cons (pg_name (i := 6) sc_Counts_of.nd rfl (.inl rfl)) pgs_nil))) (pss_one (ps_dput (hu_of hr) (pv 4) (pv 5) (pe_op op_gAdd (pe_dget2 (hu_of hr) (pv 4) (pv 5) pe_int ⟨by rfl, by rfl, by rfl, by rfl⟩) (pv 6)) rfl)))
      (pss_one (ps_ret (pe_call (ok_counts_of T) (hr.mono (by decide)) rfl T.m_counts_of T.k_counts_of T.b_counts_of .nil pass0 (pa_cons (LiI.pe_listItems rfl (pv 4) (by rfl) T.n_list (by decide +kernel)) pa_nil)))))))), ?_⟩
      walk_at "v"
      rename_i q H1 S1
      refine i_LTt S1 (hasS has0) has0 ?_
      walk_at "v"
      refine forET S1 (hasS has0) (fun i σ H => ∃ b c, σ = [some (.ref C), some (.ref a), b, c, none, none, none] ∧ Sep (Tp a vs :: DVs vs (pds ps) :: fr) H) ⟨_, _, rfl, S1.tail⟩ (fun i σ H ⟨b, c, _, S'⟩ => S'.tp (i := 0) rfl) ?_ ?_
      · rintro i x Tt σ H3 H4 hx ⟨b, c, rfl, S3⟩ hT rfl
        obtain ⟨qq, y, ey, rfl, hq⟩ := ps_get (S3.dvs (i := 1) rfl) hx
        have S4 := (S3.addT hq).newT (xs := [.int (i : Nat), .ref qq]) hT
        have hy := hg y (List.mem_of_getElem? ey)
        clear S S1 S3
        walk_at "v"
        exact ⟨_, _, rfl, (by assumption : Sep (_ :: _ :: _) _).tail.tail⟩
      · rintro σ H3 ⟨b, c, rfl, S3⟩
        clear S S1
        walk_at "v"
        rename_i d H5 S5
        refine forT S5 (hasS has0) (fun i σ H => ∃ (m : List (Str × Int)) (x y : Option V), σ = [some (.ref C), some (.ref a), b, c, some (.ref d), x, y] ∧ (keys m).Nodup ∧ m.length ≤ i ∧ (∀ w, w ∈ keys m → w ∈ keys (ps.take i)) ∧ (∀ w, num m w = psum (ps.take i) w) ∧ Sep (At d (.dK (mp m)) :: Tp a vs :: DVs vs (pds ps) :: fr) H)
          ⟨[], _, _, rfl, List.nodup_nil, Nat.le_refl _, fun _ h => (nomatch h), fun _ => rfl, S5⟩ (fun i σ H ⟨m, _, _, _, _, _, _, _, S⟩ => S.tp (i := 1) rfl) ?_ ?_
        · rintro i x σ H6 hx ⟨m, b', c', rfl, hn, hl, hk, hs, S6⟩
          obtain ⟨q', y, ey, rfl, hq⟩ := ps_get (S6.dvs (i := 2) rfl) hx
          have S7 := S6.addT hq
          have hi := get_lt ey
          clear S5 S6
          walk_at "v"
          rename_i H8 S8
          have et : ps.take (i + 1) = ps.take i ++ [y] := by rw [List.take_add_one, ey]; rfl
          refine ⟨_, _, _, rfl, nodup_put hn _ _, Nat.le_trans (len_put _ _ _) (by omega), fun w hw => ?_, fun w => ?_, S8.tail⟩
          · rw [et]
            unfold keys
            rw [List.map_append]
            rcases mem_put hw with hw | hw
            · rw [hw]
              exact List.mem_append_right _ (by exact List.mem_singleton.2 rfl)
            · exact List.mem_append_left _ (hk w hw)
          · rw [num_put, et, psum_app, hs, hs]
            show _ = _ + ((if y.1 = w then y.2 else 0) + 0)
            by_cases h : w = y.1
            · rw [if_pos h, if_pos h.symm, h]; omega
            · rw [if_neg h, if_neg (fun z => h z.symm)]; omega
        · rintro σ H6 ⟨m, b', c', rfl, hn, hl, hk, hs, S6⟩
          clear S5
          walk_at "v"
          rename_i pp H8 S8
          have e : ps.take vs.length = ps := List.take_of_length_le (by rw [ps_len hvs]; exact Nat.le_refl _)
          rw [e] at hk hs
          have hl2 := ps_len hvs
          refine ⟨pp, m, _, rfl, hn, fun x hx => ?_, by omega, S8, fun p' H9 S9 => ?_⟩
          · obtain ⟨y, hy, e⟩ := List.mem_map.1 (hk x.1 (List.mem_map_of_mem hx))
            rw [← e]
            exact (hg y hy).1
          · rw [funext hs] at S9
            exact k p' H9 (S9.drops [1, 1])
theorem c_counts_of {K : PySem.W.Frag} {A : Ad} {l : List Asn} {H : Hp} {i : Nat} {C a : Addr} {ps : List (Str × Int)} {Q : VK} {E : XK} (S : Sep l H) (e : l[i]? = some (LD a (pds ps))) (hg : Gp ps) (hz : ps.length ≤ 64) (k : ∀ p H', Sep (Co p A.c_Counts (psum ps) :: l) H' → Q (.ref p) H') : sp_Counts_of K A [.ref C, .ref a] H Q E :=
  ⟨C, a, ps, _, rfl, hg, hz, .inl ⟨S.pick e, fun p H' S' => k p H' (Sep.backS (i := i + 1) (l := _ :: l) e (S'.reord [1]))⟩⟩
local macro_rules | `(tactic| walk_at "v1") => `(tactic| ((with_reducible refine' c_counts_of (by assumption) ?hi ?hg ?hz ?_); (case hi => walk_at "has"); (case hg => assumption); (case hz => omega); intro _ _ _))
/-! law_told -/
theorem mp_get {m : List (Str × Int)} {i : Nat} {k : Key} {v : V} (h : (mp m)[i]? = some (k, v)) : ∃ w n, m[i]? = some (w, n) ∧ k = Sum.inr w ∧ v = .int n := by
  rw [List.getElem?_map] at h
  cases e : m[i]? with
  | none => rw [e] at h; cases h
  | some x =>
    rw [e] at h
    cases h
    exact ⟨x.1, x.2, rfl, rfl, rfl⟩
theorem toldOf_snoc (m : List (Str × Int)) (ws : List Str) (w : Str) : toldOf m (ws ++ [w]) = if num m w ≠ 0 then toldOf m ws ++ [(w, num m w)] else toldOf m ws := by
  unfold toldOf
  rw [List.filter_append, List.map_append]
  by_cases h : num m w ≠ 0
  · rw [if_pos h, List.filter_cons, if_pos (decide_eq_true h)]; rfl
  · rw [if_neg h, List.filter_cons, if_neg (by rw [decide_eq_false h]; exact Bool.false_ne_true)]
    show _ ++ [] = _
    rw [List.append_nil]
theorem toldOf_len (m : List (Str × Int)) (ws : List Str) : (toldOf m ws).length ≤ ws.length := by
  unfold toldOf
  rw [List.length_map]
  exact List.length_filter_le _ _
def sp_law_told : Sp := fun vs H Q _ => ∃ (d : Addr) (m : List (Str × Int)) (fr : List Asn), vs = [.ref d] ∧ (keys m).Nodup ∧ m.length < 64 ∧ Sep (At d (.dK (mp m)) :: fr) H ∧ ∀ (a : Addr) (L : List (Str × Int)) (H' : Hp), Told (num m) L → L.length ≤ m.length → Sep (LD a (pds L) :: At d (.dK (mp m)) :: fr) H' → Q (.ref a) H'
theorem c_told {l : List Asn} {H : Hp} {i : Nat} {d : Addr} {m : List (Str × Int)} {Q : VK} {E : XK} (S : Sep l H) (e : l[i]? = some (At d (.dK (mp m)))) (hn : (keys m).Nodup) (hz : m.length < 64) (k : ∀ (a : Addr) (L : List (Str × Int)) (H' : Hp), Told (num m) L → L.length ≤ m.length → Sep (LD a (pds L) :: l) H' → Q (.ref a) H') : sp_law_told [.ref d] H Q E :=
  ⟨d, m, _, rfl, hn, hz, S.pick e, fun a L H' h1 h2 S' => k a L H' h1 h2 (Sep.backS (i := i + 1) (l := LD a (pds L) :: _) e S'.fr1)⟩
theorem ok_law_told (T : Txt K mg A) : FnOk P w K mg base CX0 1 A.f_law_told A.fd_law_told ["model"] (sp_law_told) := by
  refine T.F_law_told.ok sc_law_told (fun vs H Q E h => ?_) (fun cdv A' outer s0 H vs Q E hr h => ?_)
  · obtain ⟨s, m, fr, rfl, _⟩ := h
    rfl
  · obtain ⟨d, m, fr, rfl, hn, hz, S, k⟩ := h
    have hk : (keys m).length = m.length := by unfold keys; rw [List.length_map]
    refine ⟨_, (pss_cons (ps_set (i := 1) sc_law_told.nd rfl (.inl rfl) (pe_callB (call_gSorted (K := K) rfl) (by rfl) T.n_sorted (by decide +kernel) (pa_cons (pe_lock (pe_lc (own := [("word", 2)]) (g := (gName 2)) rfl sc_law_told.nd (pi_keys (pv 0)) (blkOk_by (N := ["model", "words", "word"]) (sc := defScope s_law_told) (by decide +kernel)) (fun _ _ _ _ _ => (pg_name (i := 2) sc_law_told.nd rfl (.inl rfl))) (fun _ _ _ _ _ => pts_nil) (fun _ _ _ _ _ => (pe_callTy call_gStrS (by rfl) T.n_str (by decide +kernel) (pa_cons (pv 2) pa_nil))))) pa_nil)))
      (pss_one (ps_ret (pe_lc (own := [("word", 2)]) (g := (gName 2)) rfl sc_law_told.nd (pi_gList (K := K) rfl (pv 1)) (blkOk_by (N := ["model", "words", "word"]) (sc := defScope s_law_told) (by decide +kernel)) (fun _ _ _ _ _ => (pg_name (i := 2) sc_law_told.nd rfl (.inl rfl))) (fun _ _ _ _ _ => (pts_one (pt_cmpR (op_gNe (K := K) rfl hr.units) (pe_dget (hu_of hr) (pv 0) (pv 2) (fun _ _ => rfl)) pe_int (nomark _)))) (fun _ _ _ _ _ => (pe_tup (pa_cons (pv 2) (pa_cons (pe_dget (hu_of hr) (pv 0) (pv 2) (fun _ _ => rfl)) pa_nil)))))))), ?_⟩
    walk_at "v"
    refine lcK S has0 (fun od D i H => Sep (At D (.lst (((keys m).take i).map V.str)) :: At d (.frz od (.dK (mp m))) :: fr) H) (fun od D H' S' => S') (fun od D i H S' => S'.at (i := 1) rfl) ?_ ?_ (fun _ => funext fun _ => propext ⟨fun ⟨v, e, q⟩ => by cases e; exact q, fun q => ⟨_, rfl, q⟩⟩)
    · intro od D i k' v H1 hi S1
      obtain ⟨w, n, ew, rfl, rfl⟩ := mp_get hi
      have ek : (keys m)[i]? = some w := by unfold keys; rw [List.getElem?_map, ew]; rfl
      show LcT _ _ _ _ _ (V.str w) _ _ _
      refine lc_turn ?_
      walk_at "v"
      rename_i H2 S2
      rw [take_snoc ek, List.map_append]
      exact S2
    · intro od D H1 S1
      have S2 := S1.upd (i := 1) rfl (o' := .dK (mp m)) (fun _ z => nomatch z)
      rw [show (mp m).length = m.length by rw [List.length_map], ← hk, List.take_length] at S2
      generalize upd H1 d (.dK (mp m)) = H2 at S2 ⊢
      walk_at "v"
      refine c_sorted S2 has0 (by omega) fun ys a H3 hp hs S3 => ?_
      have hny : ys.Nodup := hp.symm.nodup hn
      have hasc := asc_of_sorted hs hny
      have hm : ∀ w, w ∈ ys ↔ w ∈ keys m := fun w => hp.mem_iff
      walk_at "v"
      refine lcL S3 has0 (fun B i H => ∃ vs, vs.length ≤ i ∧ Sep (At B (.lst vs) :: DVs vs (pds (toldOf m (ys.take i))) :: At a (.lst (ys.map V.str)) :: At d (.dK (mp m)) :: At D (.lst ((keys m).map V.str)) :: fr) H) (fun B H' S' => ?_) (fun B i H ⟨vs, _, S'⟩ => S'.at (i := 2) rfl) ?_ ?_
      · refine ⟨[], Nat.le_refl _, ((show Sep (At B (.lst []) :: At a (.lst (ys.map V.str)) :: At D (.lst ((keys m).map V.str)) :: At d (.dK (mp m)) :: fr) H' from S').reord [0, 0, 1]).addDs .nil |>.fr1⟩
      · rintro B i x H4 hx ⟨vs, hv, S4⟩
        rw [List.getElem?_map] at hx
        cases ey : ys[i]? with
        | none => rw [ey] at hx; cases hx
        | some w =>
          rw [ey] at hx
          cases hx
          have hw : w ∈ keys m := (hm w).1 (List.mem_of_getElem? ey)
          have hi := get_lt ey
          have hyl : ys.length = m.length := by rw [hp.length_eq, hk]
          rw [take_snoc ey, toldOf_snoc]
          refine lc_turn ?_
          walk_at "v"
          refine r_ifN (fun e0 => ?_) (fun e0 => ?_)
          · rw [if_pos e0]
            walk_at "v"
            rename_i q H5 S5 H6 S6
            have h1 := IsDs.snoc (pair_isD (S6.tp (i := 0) rfl)) (S6.dvs (i := 2) rfl)
            have e : pds (toldOf m (ys.take i)) ++ [pd (w, num m w)] = pds (toldOf m (ys.take i) ++ [(w, num m w)]) := by simp
            rw [e] at h1
            exact ⟨_, by rw [List.length_append]; exact Nat.succ_le_succ hv, (S6.tail.dr1.addDs h1).fr1⟩
          · rw [if_neg (fun z => z e0)]
            exact ⟨vs, by omega, S4⟩
      · rintro B H4 ⟨vs, hv, S4⟩
        walk_at "v"
        have e : ys.take (ys.map V.str).length = ys := by rw [List.length_map, List.take_length]
        rw [e] at S4
        have hyl : ys.length = m.length := by rw [hp.length_eq, hk]
        have ht := told_of hasc hm
        exact k B _ _ ht (by have := toldOf_len m ys; omega) ((ld_close (S4.dvs (i := 1) rfl) S4.dr1).dr1.dr2)
local macro_rules | `(tactic| walk_at "v1") => `(tactic| ((with_reducible refine' c_told (by assumption) ?hi (by assumption) ?hz ?_); (case hi => walk_at "has"); (case hz => omega); intro _ _ _ _ _ _))
theorem c_toldQ {l : List Asn} {H : Hp} {i : Nat} {d : Addr} {F : Str → Int} {ws : List Str} {Q : VK} {E : XK} (S : Sep l H) (e : l[i]? = some (Mq d F ws)) (hz : ws.length < 64) (k : ∀ (a : Addr) (L : List (Str × Int)) (H' : Hp), Told F L → L.length ≤ ws.length → Sep (LD a (pds L) :: l) H' → Q (.ref a) H') : sp_law_told [.ref d] H Q E := by
  obtain ⟨m, h1, h2, h3, S1⟩ := S.mq e
  have h4 := keys_le h1 h2
  subst h3
  exact ⟨d, m, _, rfl, h1, by omega, S1, fun a L H' ht hl S' => k a L H' ht (by omega) (Sep.mqBack (i := i + 1) (l := LD a (pds L) :: l) e h1 h2 rfl S'.fr1)⟩
local macro_rules | `(tactic| walk_at "v1") => `(tactic| ((with_reducible refine' c_toldQ (by assumption) ?hi ?hz ?_); (case hi => walk_at "has"); (case hz => (first | assumption | omega)); intro _ _ _ _ _ _))
/-! Counts_words -/
def sp_Counts_words (A : Ad) : Sp := fun vs H Q _ => ∃ (p : Addr) (g : Str → Int) (fr : List Asn), vs = [.ref p] ∧ Sep (Co p A.c_Counts g :: fr) H ∧ ∀ (d : Addr) (ys : List Str) (H' : Hp), Asc ys → (∀ w, w ∈ ys ↔ g w ≠ 0) → (∀ w ∈ ys, Wd w) → ys.length ≤ 500 → Sep (At d (.lst (ys.map V.str)) :: Co p A.c_Counts g :: fr) H' → Q (.ref d) H'
theorem c_words {A : Ad} {l : List Asn} {H : Hp} {i : Nat} {p : Addr} {g : Str → Int} {Q : VK} {E : XK} (S : Sep l H) (e : l[i]? = some (Co p A.c_Counts g)) (k : ∀ (d : Addr) (ys : List Str) (H' : Hp), Asc ys → (∀ w, w ∈ ys ↔ g w ≠ 0) → (∀ w ∈ ys, Wd w) → ys.length ≤ 500 → Sep (At d (.lst (ys.map V.str)) :: l) H' → Q (.ref d) H') : sp_Counts_words A [.ref p] H Q E :=
  ⟨p, g, _, rfl, S.pick e, fun d ys H' h1 h2 h3 h4 S' => k d ys H' h1 h2 h3 h4 (Sep.backS (i := i + 1) (l := _ :: l) e (S'.reord [1]))⟩
theorem ok_Counts_words (T : Txt K mg A) : FnOk P w K mg base CX0 1 A.f_Counts_words A.fd_Counts_words ["self"] (sp_Counts_words A) := by
  refine T.F_Counts_words.ok sc_Counts_words (fun vs H Q E h => ?_) (fun cdv A' outer s0 H vs Q E hr h => ?_)
  · obtain ⟨p, g, fr, rfl, _⟩ := h
    rfl
  · obtain ⟨p, g, fr, rfl, S, k⟩ := h
    have kl := T.kl_Counts
    obtain ⟨d, m, ⟨hn, hm, hz⟩, rfl, S1⟩ := co_open S
    clear S
    refine ⟨_, (pss_one (ps_ret (pe_callBK (call_gSortK (K := K) rfl rfl hr.units) (by rfl) T.n_sorted (by decide +kernel) (pa_cons (pe_gFld (K := K) rfl (pv 0) rfl) pa_nil) (pk_cons (pe_bltn (v := .ty "str") (by rfl) T.n_str (by decide +kernel) rfl) pk_nil)))), ?_⟩
    walk_at "v"
    have hk : (mp m).map (·.1) = (keys m).map Sum.inr := by unfold keys; rw [List.map_map, List.map_map]; rfl
    have hl : (keys m).length = m.length := by unfold keys; rw [List.length_map]
    refine sk_dict (ws := keys m) S1 (hasS has0) hk (by omega) fun ys a H1 hp hs S2 => ?_
    have hny : ys.Nodup := hp.symm.nodup hn
    have hmem : ∀ w, w ∈ ys ↔ w ∈ keys m := fun w => hp.mem_iff
    refine k a ys H1 (asc_of_sorted hs hny) (fun w => ?_) (fun w hw => ?_) (by rw [hp.length_eq]; omega) ((co_close ⟨hn, hm, hz⟩ rfl (S2.reord [1, 1])).fr1)
    · rw [hmem]
      constructor
      · intro hw
        obtain ⟨x, hx, rfl⟩ := List.mem_map.1 hw
        rw [num_at hn hx]; exact (hm x hx).1
      · intro h
        exact Classical.byContradiction fun z => h (num_none z)
    · obtain ⟨x, hx, rfl⟩ := List.mem_map.1 ((hmem w).1 hw)
      exact (hm x hx).2
local macro_rules | `(tactic| walk_at "v1") => `(tactic| ((with_reducible refine' c_words (by assumption) ?hi ?_); (case hi => walk_at "has"); intro _ _ _ _ _ _ _ _))
/-! Counts_pairs -/
def sp_Counts_pairs (A : Ad) : Sp := fun vs H Q _ => ∃ (p : Addr) (g : Str → Int) (fr : List Asn), vs = [.ref p] ∧ Sep (Co p A.c_Counts g :: fr) H ∧ ∀ (d : Addr) (L : List (Str × Int)) (H' : Hp), Told g L → (∀ x ∈ L, Wd x.1) → L.length ≤ 500 → Sep (LD d (pds L) :: Co p A.c_Counts g :: fr) H' → Q (.ref d) H'
theorem c_cpairs {A : Ad} {l : List Asn} {H : Hp} {i : Nat} {p : Addr} {g : Str → Int} {Q : VK} {E : XK} (S : Sep l H) (e : l[i]? = some (Co p A.c_Counts g)) (k : ∀ (d : Addr) (L : List (Str × Int)) (H' : Hp), Told g L → (∀ x ∈ L, Wd x.1) → L.length ≤ 500 → Sep (LD d (pds L) :: l) H' → Q (.ref d) H') : sp_Counts_pairs A [.ref p] H Q E :=
  ⟨p, g, _, rfl, S.pick e, fun d L H' h1 h2 h3 S' => k d L H' h1 h2 h3 (Sep.backS (i := i + 1) (l := _ :: l) e (S'.reord [1]))⟩
theorem ok_Counts_pairs (T : Txt K mg A) : FnOk P w K mg base CX0 3 A.f_Counts_pairs A.fd_Counts_pairs ["self"] (sp_Counts_pairs A) := by
  refine T.F_Counts_pairs.ok sc_Counts_pairs (fun vs H Q E h => ?_) (fun cdv A' outer s0 H vs Q E hr h => ?_)
  · obtain ⟨p, g, fr, rfl, _⟩ := h
    rfl
  · obtain ⟨p, g, fr, rfl, S, k⟩ := h
    have kl := T.kl_Counts
    refine ⟨_, (pss_one (ps_ret (pe_lc (own := [("word", 1)]) (g := (gName 1)) rfl sc_Counts_pairs.nd (pi_gList (K := K) rfl (pe_methR0 (pv 0) T.kl_Counts.c T.mt_Counts_words (raw0 (K := K) (ok_Counts_words (K := K) T) T.b_Counts_words) (hr.mono (by decide)) pass0)) (blkOk_by (N := ["self", "word"]) (sc := defScope s_Counts_pairs) (by decide +kernel)) (fun _ _ _ _ _ => (pg_name (i := 1) sc_Counts_pairs.nd rfl (.inl rfl))) (fun _ _ _ _ _ => pts_nil) (fun _ _ _ _ _ => (pe_tup (pa_cons (pv 1) (pa_cons (pe_dget (hu_of hr) (pe_gFld (K := K) rfl (pv 0) rfl) (pv 1) (fun _ _ => rfl)) pa_nil))))))), ?_⟩
    walk_at "v"
    walk_at "v"
    rename_i d ys H1 hasc hmem hwd hlen S1
    obtain ⟨dd, m, ⟨hn, hm, hz⟩, rfl, S2⟩ := co_open (S1.pick (i := 1) rfl)
    clear S S1
    refine lcL S2 (hasS (hasS has0)) (fun B i H => ∃ vs, vs.length ≤ i ∧ Sep (At B (.lst vs) :: DVs vs (pds ((ys.take i).map fun w => (w, num m w))) :: Ob p A.c_Counts [("_numbers", .ref dd)] :: At dd (.dK (mp m)) :: At d (.lst (ys.map V.str)) :: fr) H) (fun B H' S' => ⟨[], Nat.le_refl _, (S'.addDs .nil).fr1⟩) (fun B i H ⟨vs, _, S'⟩ => S'.at (i := 4) rfl) ?_ ?_
    · rintro B i x H4 hx ⟨vs, hv, S4⟩
      rw [List.getElem?_map] at hx
      cases ey : ys[i]? with
      | none => rw [ey] at hx; cases hx
      | some w =>
        rw [ey] at hx
        cases hx
        have hi := get_lt ey
        have hw : w ∈ keys m := Classical.byContradiction fun z => (hmem w).1 (List.mem_of_getElem? ey) (num_none z)
        rw [take_snoc ey, List.map_append]
        clear S2
        refine lc_turn ?_
        walk_at "v"
        rename_i q H5 S5 H6 S6
        have h1 := IsDs.snoc (pair_isD (S6.tp (i := 0) rfl)) (S6.dvs (i := 2) rfl)
        have e : pds ((ys.take i).map fun w => (w, num m w)) ++ [pd (w, num m w)] = pds ((ys.take i).map (fun w => (w, num m w)) ++ [(w, num m w)]) := by simp
        rw [e] at h1
        exact ⟨_, by rw [List.length_append]; exact Nat.succ_le_succ hv, (S6.tail.dr1.addDs h1).fr1⟩
    · rintro B H4 ⟨vs, hv, S4⟩
      have e : ys.take (ys.map V.str).length = ys := by rw [List.length_map, List.take_length]
      rw [e] at S4
      walk_at "v"
      have ek : keys (ys.map fun w => (w, num m w)) = ys := by
        unfold keys; rw [List.map_map]; conv => rhs; rw [← List.map_id ys]
        exact List.map_congr_left fun _ _ => rfl
      refine k B (ys.map fun w => (w, num m w)) _ ⟨by rw [ek]; exact hasc, fun w => by rw [ek]; exact hmem w, fun x hx => ?_⟩ (fun x hx => ?_) (by rw [List.length_map]; exact hlen) ?_
      · obtain ⟨w, _, rfl⟩ := List.mem_map.1 hx; rfl
      · obtain ⟨w, hw, rfl⟩ := List.mem_map.1 hx; exact hwd w hw
      · have S5 := ld_close (S4.dvs (i := 1) rfl) S4.dr1
        have S6 : Sep (Ob p A.c_Counts [("_numbers", .ref dd)] :: At dd (.dK (mp m)) :: LD B (pds (ys.map fun w => (w, num m w))) :: fr) H4 := (S5.dr3).reord [1, 1]
        exact (co_close ⟨hn, hm, hz⟩ rfl S6).fr1
local macro_rules | `(tactic| walk_at "v1") => `(tactic| ((with_reducible refine' c_cpairs (by assumption) ?hi ?_); (case hi => walk_at "has"); intro _ _ _ _ _ _ _))
/-! NoDivisor___init__ -/
abbrev sp_NoDivisor___init__ (K : PySem.W.Frag) : Sp := sp_exb K "word"
theorem ok_NoDivisor___init__ (T : Txt K mg A) : FnOk P w K mg base CX0 1 A.f_NoDivisor___init__ A.fd_NoDivisor___init__ ["self", "word"] (sp_NoDivisor___init__ K) := by
  refine T.F_NoDivisor___init__.ok sc_NoDivisor___init__ (fun vs H Q E h => ?_) (fun cdv A' outer s0 H vs Q E hr h => ?_)
  · obtain ⟨a, C, x, rfl, _⟩ := h
    rfl
  · obtain ⟨a, C, x, rfl, hT, hn, ha, k⟩ := h
    refine ⟨_, (pss_one (ps_gOstB (K := K) rfl (pv 0) (pv 1))), ?_⟩
    walk_at "v"
    exact ⟨a, C, rfl, hT, hn, ha, fun dx h1 h2 => k dx h1 h2⟩
/-! Counts___bool__ -/
def sp_Counts___bool__ (A : Ad) : Sp := fun vs H Q _ => ∃ (p : Addr) (g : Str → Int) (i : Nat) (fr : List Asn), vs = [.ref p] ∧ fr[i]? = some (Co p A.c_Counts g) ∧ Sep fr H ∧ ∀ (b : Bool) H', (∀ L, Told g L → b = !L.isEmpty) → Sep fr H' → Q (.bl b) H'
theorem ok_Counts___bool__ (T : Txt K mg A) : FnOk P w K mg base CX0 1 A.f_Counts___bool__ A.fd_Counts___bool__ ["self"] (sp_Counts___bool__ A) := by
  refine T.F_Counts___bool__.ok sc_Counts___bool__ (fun vs H Q E h => ?_) (fun cdv A' outer s0 H vs Q E hr h => ?_)
  · obtain ⟨p, g, i, fr, rfl, _⟩ := h
    rfl
  · obtain ⟨p, g, i, fr, rfl, hi, S, k⟩ := h
    have kl := T.kl_Counts
    obtain ⟨dd, m, hG, rfl, S2⟩ := S.co hi
    refine ⟨_, (pss_one (ps_ret (pe_callTy call_boolD (by rfl) T.n_bool (by decide +kernel) (pa_cons (pe_gFld (K := K) rfl (pv 0) rfl) pa_nil)))), ?_⟩
    walk_at "v"
    refine k _ _ (fun L hL => ?_) S
    have e := (perm_told hG hL).length_eq
    cases m with
    | nil => cases L with
      | nil => rfl
      | cons y L => cases e
    | cons x m => cases L with
      | nil => cases e
      | cons y L => rfl
theorem c_bool {A : Ad} {l : List Asn} {H : Hp} {i : Nat} {p : Addr} {g : Str → Int} {Q : VK} {E : XK} (S : Sep l H) (e : l[i]? = some (Co p A.c_Counts g)) (k : ∀ (b : Bool) H', (∀ L, Told g L → b = !L.isEmpty) → Sep l H' → Q (.bl b) H') : rBoolOwn A.c_Counts (sp_Counts___bool__ A) E [.ref p] H Q := by
  obtain ⟨dx, fs, h⟩ := ins_co S e
  exact ⟨p, dx, fs, rfl, h, p, g, i, l, rfl, e, S, fun b H' hb S' => ⟨b, rfl, k b H' hb S'⟩⟩
theorem c_true {A : Ad} {l : List Asn} {H : Hp} {i : Nat} {p : Addr} {g : Str → Int} {Q : Bool → Hp → Prop} {E : XK} (S : Sep l H) (e : l[i]? = some (Co p A.c_Counts g)) (k : ∀ (b : Bool) H', (∀ L, Told g L → b = !L.isEmpty) → Sep l H' → Q b H') : rTruOwn A.c_Counts (sp_Counts___bool__ A) E (.ref p) H Q := by
  obtain ⟨dx, fs, h⟩ := ins_co S e
  exact ⟨p, dx, fs, rfl, h, p, g, i, l, rfl, e, S, fun b H' hb S' => ⟨b, rfl, k b H' hb S'⟩⟩
/-! check_divisor -/
/-- what a divisor of the integers h must have: words, none below zero -/
def DivOk (L : List (Str × Int)) : Prop := L ≠ [] ∧ ∀ x ∈ L, 0 < x.2
/-- the word that is told where it hasn't: the first below zero, or None -/
def DivBad (L : List (Str × Int)) (v : V) : Prop := (L = [] ∧ v = .non) ∨ ∃ (i : Nat) (x : Str × Int), L[i]? = some x ∧ x.2 < 0 ∧ (∀ y ∈ L.take i, ¬ y.2 < 0) ∧ v = .str x.1
theorem told_ex {g : Str → Int} {m : List (Str × Int)} (hn : (keys m).Nodup) (hm : num m = g) : ∃ L, Told g L :=
  ⟨toldOf m ((keys m).mergeSort byStr), by
    rw [← hm]
    exact told_of (asc_of_sorted (byStr_pairs _) ((List.mergeSort_perm _ _).symm.nodup hn)) fun w => (List.mergeSort_perm _ _).mem_iff⟩
def spX_check_divisor (K : PySem.W.Frag) (A : Ad) : Sp := fun vs H Q E => ∃ (p : Addr) (g : Str → Int) (i : Nat) (fr : List Asn), vs = [.ref p] ∧ fr[i]? = some (Co p A.c_Counts g) ∧ Sep fr H ∧
  (∀ L H', Told g L → DivOk L → Sep fr H' → Q .non H') ∧ ∀ L v, Told g L → DivBad L v → ∀ d H', Sep (At d (.xd [("word", v)]) :: fr) H' → E (.ref A.c_NoDivisor) (some d) H'
theorem okX_check_divisor (T : Txt K mg A) : FnOk P w K mg base (L2.CX P w) 5 A.f_check_divisor A.fd_check_divisor ["counts"] (spX_check_divisor K A) := by
  refine T.F_check_divisor.okX sc_check_divisor (fun vs H Q E h => ?_) (fun cdv A' outer s0 H vs Q E hr h => ?_)
  · obtain ⟨p, g, i, fr, rfl, _⟩ := h
    rfl
  · obtain ⟨p, g, i, fr, rfl, hi, S, kN, kX⟩ := h
    have hmk : ∀ (v : V) {H1 : Hp}, (∃ L, Told g L ∧ DivBad L v) → Sep fr H1 → gMkO A.c_NoDivisor (sp_NoDivisor___init__ K) [] [v] H1 fun cls d H' => E cls d H' := fun v H1 ⟨L, h1, h2⟩ S1 => mk_exb S1 T.ob_NoDivisor T.xn_NoDivisor_word (kX L v h1 h2)
    refine ⟨_, (pss_cons (ps_if (pt_not (pt_truthR (pv 0) (tru_own T.mt_Counts___bool__ (raw0 (K := K) (ok_Counts___bool__ (K := K) T) T.b_Counts___bool__) (hr.mono (by decide)) pass0) (by intro _; rfl))) (pss_one (ps_gRaise rfl (takes_of rfl rfl rfl rfl) (pmk_exb T.ob_NoDivisor T.oi_NoDivisor T.ot_NoDivisor (ok_NoDivisor___init__ (K := K) T) (hr.mono (by decide)) T.b_NoDivisor___init__ pass0 rfl T.vm_NoDivisor (pa_cons pe_non pa_nil)))) pss_nil)
      (pss_one (ps_for (passes_of rfl) rfl (pi_gList (K := K) rfl (pe_methR0 (pv 0) T.kl_Counts.c T.mt_Counts_pairs (raw0 (K := K) (ok_Counts_pairs (K := K) T) T.b_Counts_pairs) (hr.mono (by decide)) pass0)) (pg_gTup (K := K) rfl rfl (pgs_cons (pg_name (i := 1) sc_check_divisor.nd rfl (.inl rfl)) (pgs_cons (pg_name (i := 2) sc_check_divisor.nd rfl (.inl rfl)) pgs_nil))) (pss_one (ps_if (pt_cmpR op_gLt (pv 2) pe_int (nomark _)) (pss_one (ps_gRaise rfl (takes_of rfl rfl rfl rfl) (pmk_exb T.ob_NoDivisor T.oi_NoDivisor T.ot_NoDivisor (ok_NoDivisor___init__ (K := K) T) (hr.mono (by decide)) T.b_NoDivisor___init__ pass0 rfl T.vm_NoDivisor (pa_cons (pv 1) pa_nil)))) pss_nil))))), ?_⟩
    walk_at "v"
    obtain ⟨L0, hL0⟩ : ∃ L, Told g L := by
      obtain ⟨dd, m, hG, hm, _⟩ := S.co hi
      exact told_ex hG.1 hm
    refine ⟨p, g, i, fr, rfl, hi, S, fun b H1 hb S1 => ⟨b, rfl, ?_⟩⟩
    have hbL := hb L0 hL0
    clear S
    cases b
    · have e0 : L0 = [] := by
        cases L0 with
        | nil => rfl
        | cons x L => cases hbL
      walk_at "v"
      exact hmk _ ⟨L0, hL0, .inl ⟨e0, rfl⟩⟩ S1
    · have e0 : L0 ≠ [] := fun z => by rw [z] at hbL; cases hbL
      walk_at "v"
      rename_i d L H2 ht hw hl S2
      have e1 : L = L0 := told_same ht hL0
      subst e1
      obtain ⟨vs, hvs, S3⟩ := ld_open S2
      have hvl := ps_len hvs
      clear S1 S2
      walk_at "v"
      refine forL S3 has0 (fun m σ H => ∃ x y, σ = [some (.ref p), x, y] ∧ Sep (At d (.lst vs) :: DVs vs (pds L) :: fr) H ∧ ∀ z ∈ L.take m, ¬ z.2 < 0) ⟨_, _, rfl, S3, fun _ z => nomatch z⟩ (fun m σ H ⟨_, _, _, S', _⟩ => S'.at (i := 0) rfl) ?_ ?_
      · rintro m v σ H4 hx ⟨x', y', rfl, S4, hp⟩
        obtain ⟨q', y, ey, rfl, hq⟩ := ps_get (S4.dvs (i := 1) rfl) hx
        have S5 := S4.addT hq
        clear S3 S4
        walk_at "v"
        refine r_ifD (fun e2 => ?_) (fun e2 => ?_)
        · walk_at "v"
          exact hmk _ ⟨L, hL0, .inr ⟨m, y, ey, e2, hp, rfl⟩⟩ (S5.drops [0, 0, 0])
        · walk_at "v"
          refine ⟨_, _, rfl, S5.tail, fun z hz => ?_⟩
          rw [take_snoc ey] at hz
          rcases List.mem_append.1 hz with hz | hz
          · exact hp z hz
          · rw [List.mem_singleton.1 hz]; exact e2
      · rintro σ H4 ⟨x', y', rfl, S4, hp⟩
        rw [hvl, List.take_length] at hp
        walk_at "v"
        refine kN L _ hL0 ⟨e0, fun x hx => ?_⟩ (S4.drops [0, 0])
        have h1 := hp x hx
        have h2 := hL0.2.2 x hx
        have h3 := (hL0.2.1 x.1).1 (List.mem_map_of_mem hx)
        omega
theorem x_check_divisor {K : PySem.W.Frag} {A : Ad} {l : List Asn} {H : Hp} {i : Nat} {p : Addr} {g : Str → Int} {Q : VK} {E : XK} (S : Sep l H) (e : l[i]? = some (Co p A.c_Counts g)) (kN : ∀ L H', Told g L → DivOk L → Sep l H' → Q .non H') (kX : ∀ L v, Told g L → DivBad L v → ∀ d H', Sep (At d (.xd [("word", v)]) :: l) H' → E (.ref A.c_NoDivisor) (some d) H') : spX_check_divisor K A [.ref p] H Q E :=
  ⟨p, g, i, l, rfl, e, S, kN, kX⟩
/-! law_due -/
--needs check_divisor
theorem told_gp {m L : List (Str × Int)} (h : Told (num m) L) (hg : Gp m) : ∀ x ∈ L, Wd x.1 := fun x hx => by
  have h1 := (h.2.1 x.1).1 (List.mem_map_of_mem hx)
  have h2 : x.1 ∈ keys m := Classical.byContradiction fun z => h1 (num_none z)
  obtain ⟨y, hy, e⟩ := List.mem_map.1 h2
  exact e ▸ (hg y hy).1
def sp_law_due (K : PySem.W.Frag) : Sp := fun vs H Q _ => ∃ (d : Addr) (m : List (Str × Int)) (fr : List Asn), vs = [.ref d] ∧ (keys m).Nodup ∧ m.length < 64 ∧ Gp m ∧ Sep (At d (.dK (mp m)) :: fr) H ∧
  ∀ (L : List (Str × Int)) (a : Addr) (xs : List V) (H' : Hp), Told (num m) L → (DivOk L ∧ xs = [] ∨ ∃ v, DivBad L v ∧ xs = [v] ∧ ((∃ w : Str, v = .str w) ∨ v = .non)) → Sep (At a (.lst xs) :: At d (.dK (mp m)) :: fr) H' → Q (.ref a) H'
theorem ok_law_due (T : Txt K mg A) : FnOk P w K mg base CX0 7 A.f_law_due A.fd_law_due ["divisor"] (sp_law_due K) := by
  refine T.F_law_due.ok sc_law_due (fun vs H Q E h => ?_) (fun cdv A' outer s0 H vs Q E hr h => ?_)
  · obtain ⟨d, m, fr, rfl, _⟩ := h
    rfl
  · obtain ⟨d, m, fr, rfl, hn, hz, hgm, S, k⟩ := h
    refine ⟨_, (pss_cons (ps_set (i := 1) sc_law_due.nd rfl (.inl rfl) (pe_call (ok_law_told T) (hr.mono (by decide)) rfl T.m_law_told T.k_law_told T.b_law_told .nil pass0 (pa_cons (pv 0) pa_nil)))
      (pss_cons (ps_for PassesOwn.never rfl (pi_gList (K := K) rfl (pv 1)) (pg_gTup (K := K) rfl rfl (pgs_cons (pg_name (i := 2) sc_law_due.nd rfl (.inl rfl)) (pgs_cons (pg_name (i := 3) sc_law_due.nd rfl (.inl rfl)) pgs_nil))) (pss_one (ps_if (pt_cmpR op_gLt (pv 3) pe_int (nomark _)) (pss_one (ps_ret (pe_lst (pa_cons (pv 2) pa_nil)))) pss_nil)))
      (pss_one (ps_ret (pe_ifExp (pt_cmpR (op_gEq (K := K) rfl hr.units) (pv 1) (pe_lst pa_nil) (nomark _)) (pe_lst (pa_cons pe_non pa_nil)) (pe_lst pa_nil)))))), ?_⟩
    walk_at "v"
    rename_i a1 L H1 ht hl S1
    obtain ⟨vs, hvs, S2⟩ := ld_open S1
    have hvl := ps_len hvs
    clear S S1
    refine forL S2 has0 (fun i σ H => ∃ x y, σ = [some (.ref d), some (.ref a1), x, y] ∧ Sep (At a1 (.lst vs) :: DVs vs (pds L) :: At d (.dK (mp m)) :: fr) H ∧ ∀ z ∈ L.take i, ¬ z.2 < 0) ⟨_, _, rfl, S2, fun _ z => nomatch z⟩ (fun i σ H ⟨_, _, _, S', _⟩ => S'.at (i := 0) rfl) ?_ ?_
    · rintro i v σ H4 hx ⟨x', y', rfl, S4, hp⟩
      obtain ⟨q', y, ey, rfl, hq⟩ := ps_get (S4.dvs (i := 1) rfl) hx
      have S5 := S4.addT hq
      clear S2 S4
      walk_at "v"
      refine r_ifD (fun e2 => ?_) (fun e2 => ?_)
      · walk_at "v"
        rename_i r H5 S6
        exact k L r _ _ ht (.inr ⟨_, .inr ⟨i, y, ey, e2, hp, rfl⟩, rfl, .inl ⟨_, rfl⟩⟩) (S6.drops [1, 1, 1])
      · walk_at "v"
        refine ⟨_, _, rfl, S5.tail, fun z hz => ?_⟩
        rw [take_snoc ey] at hz
        rcases List.mem_append.1 hz with hz | hz
        · exact hp z hz
        · rw [List.mem_singleton.1 hz]; exact e2
    · rintro σ H4 ⟨x', y', rfl, S4, hp⟩
      rw [hvl, List.take_length] at hp
      have S5 : Sep (LD a1 (pds L) :: At d (.dK (mp m)) :: fr) H4 := ld_close (S4.dvs (i := 1) rfl) (S4.drops [1])
      clear S4
      walk_at "v"
      rename_i e0 H5 S6
      have S7 : Sep (LD e0 (pds []) :: LD a1 (pds L) :: At d (.dK (mp m)) :: fr) H5 := ld_close .nil S6
      refine eq_pds S7 (hasS has0) has0 (told_gp ht hgm) (fun _ z => nomatch z) ⟨_, rfl, ?_⟩
      clear S5 S6
      cases L with
      | nil =>
        rw [if_pos (decide_eq_true rfl)]
        walk_at "v"
        rename_i r H6 S8
        exact k [] r _ _ ht (.inr ⟨_, .inl ⟨rfl, rfl⟩, rfl, .inr rfl⟩) (S8.drops [1, 1])
      | cons x L =>
        rw [if_neg (by rw [decide_eq_false (List.cons_ne_nil _ _)]; exact Bool.false_ne_true)]
        walk_at "v"
        rename_i r H6 S8
        refine k (x :: L) r _ _ ht (.inl ⟨⟨List.cons_ne_nil _ _, fun y hy => ?_⟩, rfl⟩) (S8.drops [1, 1])
        have h1 := hp y hy
        have h2 := ht.2.2 y hy
        have h3 := (ht.2.1 y.1).1 (List.mem_map_of_mem hy)
        omega
theorem c_due8 {K : PySem.W.Frag} {l : List Asn} {H : Hp} {i : Nat} {d : Addr} {m : List (Str × Int)} {Q : VK} {E : XK} (S : Sep l H) (e : l[i]? = some (At d (.dK (mp m)))) (hn : (keys m).Nodup) (hz : m.length < 64) (hg : Gp m)
    (k : ∀ (L : List (Str × Int)) (a : Addr) (xs : List V) (H' : Hp), Told (num m) L → (DivOk L ∧ xs = [] ∨ ∃ v, DivBad L v ∧ xs = [v] ∧ ((∃ w : Str, v = .str w) ∨ v = .non)) → Sep (At a (.lst xs) :: l) H' → Q (.ref a) H') : sp_law_due K [.ref d] H Q E :=
  ⟨d, m, _, rfl, hn, hz, hg, S.pick e, fun L a xs H' h1 h2 S' => k L a xs H' h1 h2 (Sep.backS (i := i + 1) (l := At a (.lst xs) :: l) e S'.fr1)⟩
/-! law_fits -/
theorem big30 {n : Int} (h1 : -(10 ^ 30) < n) (h2 : n < 10 ^ 30) : n.natAbs < 2 ^ 1000 := Nat.lt_trans (m := 10 ^ 30) (by omega) (by decide +kernel)
def sp_law_fits (K : PySem.W.Frag) : Sp := fun vs H Q _ => ∃ (n : Int) (a d : Addr) (F : Str → Int) (z : Nat) (m : List (Str × Int)) (i : Nat) (fr : List Asn), vs = [.int n, .ref a, .ref d] ∧ fr[i]? = some (Md a F z) ∧ z < 64 ∧ (keys m).Nodup ∧ m.length < 64 ∧ Gp m ∧ n.natAbs < 2 ^ 1000 ∧ Sep (At d (.dK (mp m)) :: fr) H ∧
  ∀ (b : Bool) (H' : Hp), (b = true ↔ ∀ x ∈ m, n * x.2 ≤ F x.1) → Sep (At d (.dK (mp m)) :: fr) H' → Q (.bl b) H'
theorem ok_law_fits (T : Txt K mg A) : FnOk P w K mg base CX0 1 A.f_law_fits A.fd_law_fits ["times", "model", "divisor"] (sp_law_fits K) := by
  refine T.F_law_fits.ok sc_law_fits (fun vs H Q E h => ?_) (fun cdv A' outer s0 H vs Q E hr h => ?_)
  · obtain ⟨n, a, d, F, z, m, i, fr, rfl, _⟩ := h
    rfl
  · obtain ⟨n, a, d, F, z, m, i, fr, rfl, hi, hz, hn, hm, hg, hb, S, k⟩ := h
    refine ⟨_, (pss_cons (ps_lock (ps_for PassesOwn.never rfl (pi_keys (pv 2)) (pg_name (i := 3) sc_law_fits.nd rfl (.inl rfl)) (pss_one (ps_if (pt_cmpR op_gGt (pe_op op_gMul (pv 0) (pe_dget (hu_of hr) (pv 2) (pv 3) (fun _ _ => rfl))) (pe_dget2 (hu_of hr) (pv 1) (pv 3) pe_int ⟨by rfl, by rfl, by rfl, by rfl⟩) (nomark _)) (pss_one (ps_ret pe_bl)) pss_nil))))
      (pss_one (ps_ret pe_bl))), ?_⟩
    walk_at "v"
    refine forK S (e := 0) rfl (fun od t σ H => ∃ (c : Option V), σ = [some (.int n), some (.ref a), some (.ref d), c] ∧ (∀ x ∈ m.take t, n * x.2 ≤ F x.1) ∧ Sep (At d (.frz od (.dK (mp m))) :: fr) H) (fun od H' S' => ⟨_, rfl, (fun _ z => nomatch z), S'⟩) (fun od t σ H ⟨c, _, _, S'⟩ => S'.at (i := 0) rfl) ?_ ?_ (var_at rfl)
    · rintro od t k' v σ H5 hx' ⟨c, rfl, hp, S6⟩
      obtain ⟨w, n', ew, rfl, rfl⟩ := mp_get' hx'
      have hmem := List.mem_of_getElem? ew
      have hw : w ∈ keys m := List.mem_map_of_mem hmem
      have hwn : num m w = n' := num_at hn hmem
      have hgn := hg _ hmem
      clear S
      show gName _ (V.str w) _ _ _
      walk_at "v"
      refine o_mulW (wide_mul hb (by rw [hwn]; exact big30 hgn.2.1 hgn.2.2) (by decide) (by decide) (by decide)) ?_
      walk_at "v"
      refine r_ifD (fun e2 => ?_) (fun e2 => ?_)
      · walk_at "v"
        have S7 := S6.upd (i := 0) rfl (o' := .dK (mp m)) (fun _ z => nomatch z)
        refine ⟨S6.at (i := 0) rfl, k false _ ⟨fun z => (nomatch z), fun z => ?_⟩ S7⟩
        have h1 := z _ hmem
        rw [hwn] at e2
        exact absurd h1 (by show ¬ n * n' ≤ F w; omega)
      · walk_at "v"
        refine ⟨_, rfl, fun x hx => ?_, S6⟩
        rw [take_snoc ew] at hx
        rcases List.mem_append.1 hx with hx | hx
        · exact hp x hx
        · rw [List.mem_singleton.1 hx]
          rw [hwn] at e2
          show n * n' ≤ F w
          omega
    · rintro od σ H5 ⟨c, rfl, hp, S6⟩
      rw [show (mp m).length = m.length by rw [List.length_map], List.take_length] at hp
      have S7 := S6.upd (i := 0) rfl (o' := .dK (mp m)) (fun _ z => nomatch z)
      replace S7 : Sep (At d (.dK (mp m)) :: fr) (upd H5 d (.dK (mp m))) := S7
      generalize upd H5 d (.dK (mp m)) = H6 at S7 ⊢
      clear S S6
      walk_at "v"
      exact k true _ ⟨fun _ => hp, fun _ => rfl⟩ S7
/-! law_is_integer -/
def sp_law_is_integer : Sp := fun vs H Q _ => (∃ n : Int, vs = [.int n] ∧ Q (.bl true) H) ∨ ∃ x : V, vs = [x] ∧ (x = .non ∨ ∃ w : Str, x = .str w) ∧ Q (.bl false) H
theorem c_isint {n : Int} {H : Hp} {Q : VK} {E : XK} (q : Q (.bl true) H) : sp_law_is_integer [.int n] H Q E := .inl ⟨n, rfl, q⟩
theorem c_isintN {x : V} {H : Hp} {Q : VK} {E : XK} (h : x = .non ∨ ∃ w : Str, x = .str w) (q : Q (.bl false) H) : sp_law_is_integer [x] H Q E := .inr ⟨x, rfl, h, q⟩
theorem ok_law_is_integer (T : Txt K mg A) : FnOk P w K mg base CX0 1 A.f_law_is_integer A.fd_law_is_integer ["thing"] (sp_law_is_integer) := by
  refine T.F_law_is_integer.ok sc_law_is_integer (fun vs H Q E h => ?_) (fun cdv A' outer s0 H vs Q E hr h => ?_)
  · rcases h with ⟨n, rfl, _⟩ | ⟨x, rfl, _⟩ <;> rfl
  · rcases h with ⟨n, rfl, q⟩ | ⟨x, rfl, rfl | ⟨w, rfl⟩, q⟩
    · refine ⟨_, (pss_one (ps_ret (pe_and (pe_callB (call_gIsi (K := K) rfl) (by rfl) T.n_isinstance (by decide +kernel) (pa_cons (pv 0) (pa_cons (pe_bltn (v := .ty "int") (by rfl) T.n_int (by decide +kernel) rfl) pa_nil))) (pe_one (pe_not (pe_callB (call_gIsi (K := K) rfl) (by rfl) T.n_isinstance (by decide +kernel) (pa_cons (pv 0) (pa_cons (pe_bltn (v := .ty "bool") (by rfl) T.n_bool (by decide +kernel) rfl) pa_nil)))))))), ?_⟩
      walk_at "v"
      exact q
    · refine ⟨_, (pss_one (ps_ret (pe_and (pe_callB (call_gIsi (K := K) rfl) (by rfl) T.n_isinstance (by decide +kernel) (pa_cons (pv 0) (pa_cons (pe_bltn (v := .ty "int") (by rfl) T.n_int (by decide +kernel) rfl) pa_nil))) (pe_one (pe_not (pe_callB (call_gIsi (K := K) rfl) (by rfl) T.n_isinstance (by decide +kernel) (pa_cons (pv 0) (pa_cons (pe_bltn (v := .ty "bool") (by rfl) T.n_bool (by decide +kernel) rfl) pa_nil)))))))), ?_⟩
      walk_at "v"
      exact q
    · refine ⟨_, (pss_one (ps_ret (pe_and (pe_callB (call_gIsi (K := K) rfl) (by rfl) T.n_isinstance (by decide +kernel) (pa_cons (pv 0) (pa_cons (pe_bltn (v := .ty "int") (by rfl) T.n_int (by decide +kernel) rfl) pa_nil))) (pe_one (pe_not (pe_callB (call_gIsi (K := K) rfl) (by rfl) T.n_isinstance (by decide +kernel) (pa_cons (pv 0) (pa_cons (pe_bltn (v := .ty "bool") (by rfl) T.n_bool (by decide +kernel) rfl) pa_nil)))))))), ?_⟩
      walk_at "v"
      exact q
local macro_rules | `(tactic| walk_at "v1") => `(tactic| (with_reducible refine c_isint ?_))
/-! law_equal -/
def sp_law_equal (K : PySem.W.Frag) (A : Ad) : Sp := fun vs H Q _ => ∃ (p d : Addr) (g : Str → Int) (m : List (Str × Int)) (fr : List Asn), vs = [.ref p, .ref d] ∧ (keys m).Nodup ∧ m.length < 64 ∧ num m = g ∧ Sep (Co p A.c_Counts g :: At d (.dK (mp m)) :: fr) H ∧ ∀ H', Sep (Co p A.c_Counts g :: At d (.dK (mp m)) :: fr) H' → Q (.bl true) H'
theorem ok_law_equal (T : Txt K mg A) : FnOk P w K mg base CX0 5 A.f_law_equal A.fd_law_equal ["counts", "model"] (sp_law_equal K A) := by
  refine T.F_law_equal.ok sc_law_equal (fun vs H Q E h => ?_) (fun cdv A' outer s0 H vs Q E hr h => ?_)
  · obtain ⟨p, d, g, m, fr, rfl, _⟩ := h
    rfl
  · obtain ⟨p, d, g, m, fr, rfl, hn, hz, hg, S, k⟩ := h
    have kl := T.kl_Counts
    refine ⟨_, (pss_cons (ps_set (i := 2) sc_law_equal.nd rfl (.inl rfl) (pe_methR0 (pv 0) T.kl_Counts.c T.mt_Counts_pairs (raw0 (K := K) (ok_Counts_pairs (K := K) T) T.b_Counts_pairs) (hr.mono (by decide)) pass0))
      (pss_cons (ps_if (PW.pt (pw_or (pt_not (pt_val (pe_callB (call_gIsi (K := K) rfl) (by rfl) T.n_isinstance (by decide +kernel) (pa_cons (pv 2) (pa_cons (pe_bltn (v := .ty "list") (by rfl) T.n_list (by decide +kernel) rfl) pa_nil))))) (pw_or1 (pt_cmpR (op_gNe (K := K) rfl hr.units) (pv 2) (pe_call (ok_law_told T) (hr.mono (by decide)) rfl T.m_law_told T.k_law_told T.b_law_told .nil pass0 (pa_cons (pv 1) pa_nil)) (nomark _))))) (pss_one (ps_ret pe_bl)) pss_nil)
      (pss_cons (ps_for PassesOwn.never rfl (pi_gList (K := K) rfl (pv 2)) (pg_name (i := 3) sc_law_equal.nd rfl (.inl rfl)) (pss_one (ps_if (PW.pt (pw_or (pt_not (pt_val (pe_callB (call_gIsi (K := K) rfl) (by rfl) T.n_isinstance (by decide +kernel) (pa_cons (pv 3) (pa_cons (pe_bltn (v := .ty "tuple") (by rfl) T.n_tuple (by decide +kernel) rfl) pa_nil))))) (pw_or1 (pt_not (pt_val (pe_call (ok_law_is_integer T) (hr.mono (by decide)) rfl T.m_law_is_integer T.k_law_is_integer T.b_law_is_integer .nil pass0 (pa_cons (pe_ix (ix_g (K := K) rfl) (pv 3) pe_int (fun _ _ => rfl)) pa_nil))))))) (pss_one (ps_ret pe_bl)) pss_nil)))
      (pss_one (ps_ret pe_bl))))), ?_⟩
    walk_at "v"
    rename_i a1 L1 H1 ht1 hw1 hl1 S1 a2 M1 H2 ht2 hl2 S2
    have eL : L1 = M1 := told_same ht1 (hg ▸ ht2)
    subst eL
    refine ne_pds S2 (hasS has0) has0 hw1 hw1 ?_
    rw [decide_eq_true (rfl : L1 = L1)]
    obtain ⟨vs, hvs, S3⟩ := ld_open (S2.pick (i := 1) rfl)
    clear S S1 S2
    walk_at "v"
    refine forL S3 has0 (fun i σ H => ∃ b, σ = [some (.ref p), some (.ref d), some (.ref a1), b] ∧ Sep (At a1 (.lst vs) :: DVs vs (pds L1) :: Co p A.c_Counts g :: At d (.dK (mp m)) :: fr) H) ⟨_, rfl, S3.dr2⟩ (fun i σ H ⟨b, _, S'⟩ => S'.at (i := 0) rfl) ?_ ?_
    · rintro i x σ H3 hx ⟨b, rfl, S4⟩
      obtain ⟨q, y, ey, rfl, hq⟩ := ps_get (S4.dvs (i := 1) rfl) hx
      have S5 := S4.addT hq
      clear S3 S4
      walk_at "v"
      exact ⟨_, rfl, S5.tail⟩
    · rintro σ H3 ⟨b, rfl, S4⟩
      clear S3
      walk_at "v"
      exact k _ S4.tail.tail
theorem c_equal {K : PySem.W.Frag} {A : Ad} {l : List Asn} {H : Hp} {i j : Nat} {p d : Addr} {g : Str → Int} {m : List (Str × Int)} {Q : VK} {E : XK} (S : Sep l H) (e : l[i]? = some (Co p A.c_Counts g)) (e2 : (l.eraseIdx i)[j]? = some (At d (.dK (mp m)))) (hn : (keys m).Nodup) (hz : m.length < 64) (hg : num m = g) (k : ∀ H', Sep l H' → Q (.bl true) H') : sp_law_equal K A [.ref p, .ref d] H Q E :=
  ⟨p, d, g, m, (l.eraseIdx i).eraseIdx j, rfl, hn, hz, hg, Sep.fr1 (show Sep (At d (.dK (mp m)) :: Co p A.c_Counts g :: (l.eraseIdx i).eraseIdx j) H from (S.pick e).pick (i := j + 1) e2), fun H' S' => k H' (Sep.backS e (Sep.backS (i := j + 1) (l := Co p A.c_Counts g :: l.eraseIdx i) e2 S'.fr1))⟩
local macro_rules | `(tactic| walk_at "v1") => `(tactic| ((with_reducible refine' c_equal (by assumption) ?hi ?hj ?hn ?hz ?hg ?_); (case hi => walk_at "has"); (case hj => walk_at "has"); (case hn => assumption); (case hz => omega); (case hg => (first | assumption | rfl)); intro _ _))
theorem c_equalM {K : PySem.W.Frag} {A : Ad} {l : List Asn} {H : Hp} {i j : Nat} {p d : Addr} {g F : Str → Int} {n : Nat} {Q : VK} {E : XK} (S : Sep l H) (e : l[i]? = some (Co p A.c_Counts g)) (e2 : l[j]? = some (Md d F n)) (hz : n < 64) (hF : F = g) (k : ∀ H', Sep l H' → Q (.bl true) H') : sp_law_equal K A [.ref p, .ref d] H Q E := by
  have hne := co_ne_md S e e2
  obtain ⟨m, h1, h2, h3, S1⟩ := S.md e2
  have e3 := erase_get (Ne.symm hne) e
  refine ⟨p, d, g, m, _, rfl, h1, by omega, h3.trans hF, S1.pick (i := (if i < j then i else i - 1) + 1) e3, fun H' S' => k H' (Sep.mdBack e2 h1 h2 h3 ?_)⟩
  exact Sep.backS (i := (if i < j then i else i - 1) + 1) (l := At d (.dK (mp m)) :: l.eraseIdx j) e3 S'
local macro_rules | `(tactic| walk_at "v1") => `(tactic| ((with_reducible refine' c_equalM (by assumption) ?hi ?hj ?hz ?hF ?_); (case hi => walk_at "has"); (case hj => walk_at "has"); (case hz => (first | omega | assumption | decide)); (case hF => (first | assumption | rfl)); intro _ _))
theorem c_equalQ {K : PySem.W.Frag} {A : Ad} {l : List Asn} {H : Hp} {i j : Nat} {p d : Addr} {g F : Str → Int} {ws : List Str} {Q : VK} {E : XK} (S : Sep l H) (e : l[i]? = some (Co p A.c_Counts g)) (e2 : l[j]? = some (Mq d F ws)) (hne : i ≠ j) (hz : ws.length < 64) (hF : F = g) (k : ∀ H', Sep l H' → Q (.bl true) H') : sp_law_equal K A [.ref p, .ref d] H Q E := by
  obtain ⟨m, h1, h2, h3, S1⟩ := S.mq e2
  have e3 := erase_get (Ne.symm hne) e
  have h4 := keys_le h1 h2
  refine ⟨p, d, g, m, _, rfl, h1, by omega, h3.trans hF, S1.pick (i := (if i < j then i else i - 1) + 1) e3, fun H' S' => k H' (Sep.mqBack e2 h1 h2 h3 ?_)⟩
  exact Sep.backS (i := (if i < j then i else i - 1) + 1) (l := At d (.dK (mp m)) :: l.eraseIdx j) e3 S'
local macro_rules | `(tactic| walk_at "v1") => `(tactic| ((with_reducible refine' c_equalQ (by assumption) ?hi ?hj ?hne ?hz ?hF ?_); (case hi => walk_at "has"); (case hj => walk_at "has"); (case hne => (first | decide | omega)); (case hz => (first | omega | assumption | decide)); (case hF => (first | assumption | rfl)); intro _ _))
/-! beside -/
abbrev fresh (m1 m2 : List (Str × Int)) : List Str := (keys m2).filter fun w => decide (w ∉ keys m1)
theorem bs_of {m1 m2 : List (Str × Int)} (h1 : Good m1) (h2 : Good m2) : Bs (num m1) (num m2) (keys m1 ++ fresh m1 m2) := by
  refine ⟨List.nodup_append.2 ⟨h1.1, List.Nodup.sublist List.filter_sublist h2.1, fun a ha b hb e => ?_⟩, fun w hw => ?_, fun w hw => ⟨?_, ?_⟩⟩
  · have := (List.mem_filter.1 hb).2
    rw [← e] at this
    exact (of_decide_eq_true this) ha
  · rcases List.mem_append.1 hw with hw | hw
    · obtain ⟨x, hx, e⟩ := List.mem_map.1 hw
      rw [← e]; exact (h1.2.1 x hx).2
    · obtain ⟨x, hx, e⟩ := List.mem_map.1 (List.mem_filter.1 hw).1
      rw [← e]; exact (h2.2.1 x hx).2
  · exact num_none fun z => hw (List.mem_append_left _ z)
  · refine num_none fun z => ?_
    by_cases hk : w ∈ keys m1
    · exact hw (List.mem_append_left _ hk)
    · exact hw (List.mem_append_right _ (List.mem_filter.2 ⟨z, decide_eq_true hk⟩))
theorem fresh_snoc {m1 m2 : List (Str × Int)} {i : Nat} {w : Str} {n : Int} (h : m2[i]? = some (w, n)) : fresh m1 (m2.take (i + 1)) = fresh m1 (m2.take i) ++ if w ∈ keys m1 then [] else [w] := by
  unfold fresh
  rw [take_snoc h]
  unfold keys
  rw [List.map_append, List.filter_append]
  by_cases hw : w ∈ m1.map (·.1)
  · rw [if_pos hw]
    simp [List.filter_cons, hw]
  · rw [if_neg hw]
    simp [List.filter_cons, hw]
def sp_beside (K : PySem.W.Frag) (A : Ad) : Sp := fun vs H Q _ => ∃ (p q : Addr) (g h : Str → Int) (i j : Nat) (fr : List Asn), vs = [.ref p, .ref q] ∧ fr[i]? = some (Co p A.c_Counts g) ∧ fr[j]? = some (Co q A.c_Counts h) ∧ (p = q ∧ g = h ∨ i ≠ j) ∧ Sz g 200 ∧ Sz h 200 ∧ Sep fr H ∧
  ∀ (a : Addr) (ws : List Str) (H' : Hp), Bs g h ws → ws.length ≤ 400 → Sep (LD a (tri g h ws) :: fr) H' → Q (.ref a) H'
theorem ok_beside (T : Txt K mg A) : FnOk P w K mg base CX0 1 A.f_beside A.fd_beside ["one", "other"] (sp_beside K A) := by
  refine T.F_beside.ok sc_beside (fun vs H Q E h => ?_) (fun cdv A' outer s0 H vs Q E hr h => ?_)
  · obtain ⟨p, q, g, h, i, j, fr, rfl, _⟩ := h
    rfl
  · obtain ⟨p, q, g, h, i, j, fr, rfl, hi, hj, hij, hg, hh, S, k⟩ := h
    have kl := T.kl_Counts
    rcases hij with ⟨rfl, rfl⟩ | hij
    · obtain ⟨d, m, hG, hm, S1⟩ := S.co hi
      subst hm
      clear S hj hh
      generalize hfr : fr.eraseIdx i = fr1 at S1
      refine ⟨_, (pss_cons (ps_set (i := 2) sc_beside.nd rfl (.inl rfl) (pe_op op_gAdd (pe_callTy (call_gListD rfl) (by rfl) T.n_list (by decide +kernel) (pa_cons (pe_gFld (K := K) rfl (pv 0) rfl) pa_nil)) (pe_lock (pe_lc (own := [("word", 3)]) (g := (gName 3)) rfl sc_beside.nd (pi_keys (pe_gFld (K := K) rfl (pv 1) rfl)) (blkOk_by (N := ["one", "other", "words", "word"]) (sc := defScope s_beside) (by decide +kernel)) (fun _ _ _ _ _ => (pg_name (i := 3) sc_beside.nd rfl (.inl rfl))) (fun _ _ _ _ _ => (pts_one (pt_cmp (pc_dnotin (hu_of hr) (pv 3) (pe_gFld (K := K) rfl (pv 0) rfl))))) (fun _ _ _ _ _ => (pv 3))))))
      (pss_one (ps_ret (pe_lc (own := [("word", 3)]) (g := (gName 3)) rfl sc_beside.nd (pi_gList (K := K) rfl (pv 2)) (blkOk_by (N := ["one", "other", "words", "word"]) (sc := defScope s_beside) (by decide +kernel)) (fun _ _ _ _ _ => (pg_name (i := 3) sc_beside.nd rfl (.inl rfl))) (fun _ _ _ _ _ => pts_nil) (fun _ _ _ _ _ => (pe_tup (pa_cons (pv 3) (pa_cons (pe_dget2 (hu_of hr) (pe_gFld (K := K) rfl (pv 0) rfl) (pv 3) pe_int ⟨by rfl, by rfl, by rfl, by rfl⟩) (pa_cons (pe_dget2 (hu_of hr) (pe_gFld (K := K) rfl (pv 1) rfl) (pv 3) pe_int ⟨by rfl, by rfl, by rfl, by rfl⟩) pa_nil))))))))), ?_⟩
      walk_at "v"
      rename_i L1 H2 S2
      refine lcK2 S2 (e := 2) rfl (fun od D i H => Sep (At D (.lst ((fresh m (m.take i)).map V.str)) :: At L1 (.lst ((keys m).map V.str)) :: Ob p A.c_Counts [("_numbers", .ref d)] :: At d (.frz od (.dK (mp m))) :: fr1) H) (fun od D H' S' => S') (fun od D i H S' => S'.at (i := 3) rfl) ?_ ?_ ?_
      · intro od D i k' v H3 hi' S3
        obtain ⟨w, n, ew, rfl, rfl⟩ := mp_get' hi'
        have hw : w ∈ keys m := List.mem_map_of_mem (List.mem_of_getElem? ew)
        clear S1 S2
        show LcT _ _ _ _ _ (V.str w) _ _ _
        refine lc_turn ?_
        walk_at "v"
        rw [fresh_snoc ew, if_pos hw, List.append_nil]
        exact S3
      · intro od D H3 S3
        have S4 := S3.upd (i := 3) rfl (o' := .dK (mp m)) (fun _ z => nomatch z)
        rw [show (mp m).length = m.length by rw [List.length_map], List.take_length] at S4
        replace S4 : Sep (At D (.lst ((fresh m m).map V.str)) :: At L1 (.lst ((keys m).map V.str)) :: Ob p A.c_Counts [("_numbers", .ref d)] :: At d (.dK (mp m)) :: fr1) (upd H3 d (.dK (mp m))) := S4
        generalize upd H3 d (.dK (mp m)) = H4 at S4 ⊢
        have hb := bs_of hG hG
        have hz1 := hG.sz rfl hg
        have hz2 : (fresh m m).length ≤ m.length := Nat.le_trans (List.length_filter_le _ _) (by unfold keys; rw [List.length_map]; exact Nat.le_refl _)
        have hk : (keys m).length = m.length := by unfold keys; rw [List.length_map]
        clear S1 S2
        walk_at "v"
        refine o_cat S4 (e := 1) (e' := 0) rfl rfl (by rw [List.length_map, List.length_map]; exact Nat.le_trans (show _ ≤ 1000 by omega) (by decide)) fun L2 H5 S5 => ?_
        rw [← List.map_append] at S5
        walk_at "v"
        generalize hws : keys m ++ fresh m m = ws at hb S5
        have hwl : ws.length ≤ 400 := by rw [← hws, List.length_append]; omega
        clear S4
        refine lcL S5 has0 (fun B i H => ∃ vs, vs.length ≤ i ∧ Sep (At B (.lst vs) :: DVs vs (tri (num m) (num m) (ws.take i)) :: At L2 (.lst (ws.map V.str)) :: Ob p A.c_Counts [("_numbers", .ref d)] :: At d (.dK (mp m)) :: fr1) H) (fun B H' S' => ⟨[], Nat.le_refl _, ((S'.dr2.dr2).addDs .nil).fr1⟩) (fun B i H ⟨vs, _, S'⟩ => S'.at (i := 2) rfl) ?_ ?_
        · rintro B i x H6 hx ⟨vs, hv, S6⟩
          rw [List.getElem?_map] at hx
          cases ey : ws[i]? with
          | none => rw [ey] at hx; cases hx
          | some w =>
            rw [ey] at hx
            cases hx
            have hi := get_lt ey
            rw [take_snoc ey, tri_snoc]
            clear S5
            refine lc_turn ?_
            walk_at "v"
            rename_i q5 H7 S7 H8 S8
            have h1 := IsDs.snoc (tri_isD (S8.tp (i := 0) rfl)) (S8.dvs (i := 2) rfl)
            exact ⟨_, by rw [List.length_append]; exact Nat.succ_le_succ hv, (S8.tail.dr1.addDs h1).fr1⟩
        · rintro B H6 ⟨vs, hv, S6⟩
          rw [show (ws.map V.str).length = ws.length by rw [List.length_map], List.take_length] at S6
          clear S5
          walk_at "v"
          refine k B ws _ hb hwl (ld_close (S6.dvs (i := 1) rfl) ?_)
          subst hfr
          exact (Sep.coBack (i := i + 1) (l := At B (.lst vs) :: fr) hi hG rfl ((S6.dr1.dr1).reord [1, 1]))
      · intro od H' R S' q
        clear S1 S2
        walk_at "v"
        exact q
    · obtain ⟨d, m, hG, hm, S1⟩ := S.co hi
      subst hm
      obtain ⟨d2, m2, hG2, hm2, S2⟩ := Sep.co (i := (if j < i then j else j - 1) + 2) S1 (erase_get hij hj)
      subst hm2
      clear S S1
      replace S2 : Sep (Ob q A.c_Counts [("_numbers", .ref d2)] :: At d2 (.dK (mp m2)) :: Ob p A.c_Counts [("_numbers", .ref d)] :: At d (.dK (mp m)) :: (fr.eraseIdx i).eraseIdx (if j < i then j else j - 1)) H := S2
      generalize hfr : (fr.eraseIdx i).eraseIdx (if j < i then j else j - 1) = fr1 at S2
      refine ⟨_, (pss_cons (ps_set (i := 2) sc_beside.nd rfl (.inl rfl) (pe_op op_gAdd (pe_callTy (call_gListD rfl) (by rfl) T.n_list (by decide +kernel) (pa_cons (pe_gFld (K := K) rfl (pv 0) rfl) pa_nil)) (pe_lock (pe_lc (own := [("word", 3)]) (g := (gName 3)) rfl sc_beside.nd (pi_keys (pe_gFld (K := K) rfl (pv 1) rfl)) (blkOk_by (N := ["one", "other", "words", "word"]) (sc := defScope s_beside) (by decide +kernel)) (fun _ _ _ _ _ => (pg_name (i := 3) sc_beside.nd rfl (.inl rfl))) (fun _ _ _ _ _ => (pts_one (pt_cmp (pc_dnotin (hu_of hr) (pv 3) (pe_gFld (K := K) rfl (pv 0) rfl))))) (fun _ _ _ _ _ => (pv 3))))))
      (pss_one (ps_ret (pe_lc (own := [("word", 3)]) (g := (gName 3)) rfl sc_beside.nd (pi_gList (K := K) rfl (pv 2)) (blkOk_by (N := ["one", "other", "words", "word"]) (sc := defScope s_beside) (by decide +kernel)) (fun _ _ _ _ _ => (pg_name (i := 3) sc_beside.nd rfl (.inl rfl))) (fun _ _ _ _ _ => pts_nil) (fun _ _ _ _ _ => (pe_tup (pa_cons (pv 3) (pa_cons (pe_dget2 (hu_of hr) (pe_gFld (K := K) rfl (pv 0) rfl) (pv 3) pe_int ⟨by rfl, by rfl, by rfl, by rfl⟩) (pa_cons (pe_dget2 (hu_of hr) (pe_gFld (K := K) rfl (pv 1) rfl) (pv 3) pe_int ⟨by rfl, by rfl, by rfl, by rfl⟩) pa_nil))))))))), ?_⟩
      walk_at "v"
      rename_i L1 H2 S3
      clear S2
      refine lcK2 S3 (e := 2) rfl (fun od D i H => Sep (At D (.lst ((fresh m (m2.take i)).map V.str)) :: At L1 (.lst ((keys m).map V.str)) :: Ob q A.c_Counts [("_numbers", .ref d2)] :: At d2 (.frz od (.dK (mp m2))) :: Ob p A.c_Counts [("_numbers", .ref d)] :: At d (.dK (mp m)) :: fr1) H) (fun od D H' S' => S') (fun od D i H S' => S'.at (i := 3) rfl) ?_ ?_ ?_
      · intro od D i k' v H3 hi' S4
        obtain ⟨w, n, ew, rfl, rfl⟩ := mp_get' hi'
        have hz2 := hG2.sz rfl hh
        have hl := get_lt ew
        have hz3 : (fresh m (m2.take i)).length ≤ 200 := Nat.le_trans (List.length_filter_le _ _) (by unfold keys; rw [List.length_map, List.length_take]; omega)
        clear S3
        show LcT _ _ _ _ _ (V.str w) _ _ _
        refine lc_turn ?_
        rw [fresh_snoc ew]
        walk_at "v"
        by_cases hw : w ∈ keys m
        · rw [decide_eq_true hw, if_pos hw, List.append_nil]
          exact S4
        · rw [decide_eq_false hw, if_neg hw]
          walk_at "v"
          rename_i H5 S5
          rw [List.map_append]
          exact S5
      · intro od D H3 S4
        have S5 := S4.upd (i := 3) rfl (o' := .dK (mp m2)) (fun _ z => nomatch z)
        rw [show (mp m2).length = m2.length by rw [List.length_map], List.take_length] at S5
        replace S5 : Sep (At D (.lst ((fresh m m2).map V.str)) :: At L1 (.lst ((keys m).map V.str)) :: Ob q A.c_Counts [("_numbers", .ref d2)] :: At d2 (.dK (mp m2)) :: Ob p A.c_Counts [("_numbers", .ref d)] :: At d (.dK (mp m)) :: fr1) (upd H3 d2 (.dK (mp m2))) := S5
        generalize upd H3 d2 (.dK (mp m2)) = H4 at S5 ⊢
        have hb := bs_of hG hG2
        have hz1 := hG.sz rfl hg
        have hz2 := hG2.sz rfl hh
        have hz3 : (fresh m m2).length ≤ m2.length := Nat.le_trans (List.length_filter_le _ _) (by unfold keys; rw [List.length_map]; exact Nat.le_refl _)
        have hk : (keys m).length = m.length := by unfold keys; rw [List.length_map]
        clear S3 S4
        walk_at "v"
        refine o_cat S5 (e := 1) (e' := 0) rfl rfl (by rw [List.length_map, List.length_map]; exact Nat.le_trans (show _ ≤ 1000 by omega) (by decide)) fun L2 H5 S6 => ?_
        rw [← List.map_append] at S6
        walk_at "v"
        generalize hws : keys m ++ fresh m m2 = ws at hb S6
        have hwl : ws.length ≤ 400 := by rw [← hws, List.length_append]; omega
        clear S5
        refine lcL S6 has0 (fun B i H => ∃ vs, vs.length ≤ i ∧ Sep (At B (.lst vs) :: DVs vs (tri (num m) (num m2) (ws.take i)) :: At L2 (.lst (ws.map V.str)) :: Ob q A.c_Counts [("_numbers", .ref d2)] :: At d2 (.dK (mp m2)) :: Ob p A.c_Counts [("_numbers", .ref d)] :: At d (.dK (mp m)) :: fr1) H) (fun B H' S' => ⟨[], Nat.le_refl _, ((S'.dr2.dr2).addDs .nil).fr1⟩) (fun B i H ⟨vs, _, S'⟩ => S'.at (i := 2) rfl) ?_ ?_
        · rintro B i x H6 hx ⟨vs, hv, S7⟩
          rw [List.getElem?_map] at hx
          cases ey : ws[i]? with
          | none => rw [ey] at hx; cases hx
          | some w =>
            rw [ey] at hx
            cases hx
            have hi := get_lt ey
            rw [take_snoc ey, tri_snoc]
            clear S6
            refine lc_turn ?_
            walk_at "v"
            rename_i q5 H7 S8 H8 S9
            have h1 := IsDs.snoc (tri_isD (S9.tp (i := 0) rfl)) (S9.dvs (i := 2) rfl)
            exact ⟨_, by rw [List.length_append]; exact Nat.succ_le_succ hv, (S9.tail.dr1.addDs h1).fr1⟩
        · rintro B H6 ⟨vs, hv, S7⟩
          rw [show (ws.map V.str).length = ws.length by rw [List.length_map], List.take_length] at S7
          clear S6
          walk_at "v"
          refine k B ws _ hb hwl (ld_close (S7.dvs (i := 1) rfl) ?_)
          subst hfr
          have S8 := (S7.dr1.dr1).reord [1, 1, 1, 1]
          exact Sep.coBack (i := i + 1) (l := At B (.lst vs) :: fr) hi hG rfl ((Sep.coBack (i := (if j < i then j else j - 1) + 3) (l := Ob p A.c_Counts [("_numbers", .ref d)] :: At d (.dK (mp m)) :: At B (.lst vs) :: fr.eraseIdx i) (erase_get hij hj) hG2 rfl S8))
      · intro od H' R S' q
        clear S3
        walk_at "v"
        exact q
theorem c_beside {K : PySem.W.Frag} {A : Ad} {l : List Asn} {H : Hp} {i j : Nat} {p q : Addr} {g h : Str → Int} {Q : VK} {E : XK} (S : Sep l H) (e : l[i]? = some (Co p A.c_Counts g)) (e2 : l[j]? = some (Co q A.c_Counts h)) (hd : p = q ∧ g = h ∨ i ≠ j) (hg : Sz g 200) (hh : Sz h 200)
    (k : ∀ (a : Addr) (ws : List Str) (H' : Hp), Bs g h ws → ws.length ≤ 400 → Sep (LD a (tri g h ws) :: l) H' → Q (.ref a) H') : sp_beside K A [.ref p, .ref q] H Q E :=
  ⟨p, q, g, h, i, j, l, rfl, e, e2, hd, hg, hh, S, k⟩
/-! Counts___floordiv__ -/
--needs check_divisor beside
theorem c_min {K : PySem.W.Frag} {l : List Asn} {H : Hp} {i : Nat} {p : Addr} {ns : List Int} {Q : VK} (S : Sep l H) (hi : l[i]? = some (At p (.lst (ns.map V.int)))) (hz : 0 < ns.length) (k : ∀ m, m ∈ ns → (∀ y, y ∈ ns → m ≤ y) → Q (.int m) H) : rMin K [.ref p] H Q := ⟨p, ns, rfl, SqL.of (S.at hi), hz, k⟩
def QuotOf (g h : Str → Int) (n : Int) : Prop := (∃ w, h w ≠ 0 ∧ n = g w / h w) ∧ ∀ w, h w ≠ 0 → n ≤ g w / h w
theorem quot_of {g h : Str → Int} {m : List (Str × Int)} {n : Int} (hG : Good m) (hm : num m = h) (h1 : n ∈ m.map fun x => g x.1 / x.2) (h2 : ∀ y, y ∈ m.map (fun x => g x.1 / x.2) → n ≤ y) : QuotOf g h n := by
  subst hm
  refine ⟨?_, fun w hw => ?_⟩
  · obtain ⟨x, hx, e⟩ := List.mem_map.1 h1
    have e2 := num_at hG.1 hx
    refine ⟨x.1, ?_, ?_⟩
    · rw [e2]; exact (hG.2.1 x hx).1
    · rw [e2]; exact e.symm
  · by_cases hk : w ∈ keys m
    · obtain ⟨x, hx, rfl⟩ := List.mem_map.1 hk
      have e2 := num_at hG.1 hx
      rw [e2]
      exact h2 _ (List.mem_map.2 ⟨x, hx, rfl⟩)
    · exact absurd (num_none hk) hw
theorem div_pos {h : Str → Int} {L : List (Str × Int)} (ht : Told h L) (hd : DivOk L) {w : Str} (hw : h w ≠ 0) : 0 < h w := by
  obtain ⟨x, hx, e⟩ := List.mem_map.1 ((ht.2.1 w).2 hw)
  have h1 := hd.2 x hx
  rw [ht.2.2 x hx, e] at h1
  exact h1
theorem div_log {n : Int} (h0 : 0 < n) (h : n.natAbs < 2 ^ 1000) : CDivW 0 n := ⟨h0, Nat.lt_trans (PySem.Flt.log2_lt_of (by decide) h) (by decide)⟩
theorem div_some {h : Str → Int} {m L : List (Str × Int)} (hm : num m = h) (ht : Told h L) (hd : DivOk L) : 0 < m.length := by
  cases m with
  | nil =>
    exfalso
    cases L with
    | nil => exact hd.1 rfl
    | cons x L =>
      have h1 := (ht.2.1 x.1).1 List.mem_cons_self
      rw [← hm] at h1
      exact h1 rfl
  | cons x m => exact Nat.succ_pos _
def spX_Counts___floordiv__ (K : PySem.W.Frag) (A : Ad) : Sp := fun vs H Q E => ∃ (p q : Addr) (g h : Str → Int) (i j : Nat) (fr : List Asn), vs = [.ref p, .ref q] ∧ fr[i]? = some (Co p A.c_Counts g) ∧ fr[j]? = some (Co q A.c_Counts h) ∧ (p = q ∧ g = h ∨ i ≠ j) ∧ (∀ w, (h w).natAbs < 2 ^ 1000) ∧ Sep fr H ∧
  (∀ L n H', Told h L → DivOk L → QuotOf g h n → Sep fr H' → Q (.int n) H') ∧ ∀ L v, Told h L → DivBad L v → ∀ d H', Sep (At d (.xd [("word", v)]) :: fr) H' → E (.ref A.c_NoDivisor) (some d) H'
theorem okX_Counts___floordiv__ (T : Txt K mg A) : FnOk P w K mg base (L2.CX P w) 7 A.f_Counts___floordiv__ A.fd_Counts___floordiv__ ["self", "other"] (spX_Counts___floordiv__ K A) := by
  refine T.F_Counts___floordiv__.okX sc_Counts___floordiv__ (fun vs H Q E h => ?_) (fun cdv A' outer s0 H vs Q E hr h => ?_)
  · obtain ⟨p, q, g, h, i, j, fr, rfl, _⟩ := h
    rfl
  · obtain ⟨p, q, g, h, i, j, fr, rfl, hi, hj, hij, hb, S, kN, kX⟩ := h
    have kl := T.kl_Counts
    refine ⟨_, (pss_cons (ps_if (pt_not (pt_val (pe_callB (call_gIsi (K := K) rfl) (by rfl) T.n_isinstance (by decide +kernel) (pa_cons (pv 1) (pa_cons (pe_glob (v := .ref A.c_Counts) rfl T.vm_Counts rfl) pa_nil))))) (pss_one ps_never) pss_nil)
      (pss_cut (ps_expr (pe_call (okX_check_divisor T) (hr.mono (by decide)) rfl T.m_check_divisor T.k_check_divisor T.b_check_divisor .nil (passes_call (takes_of rfl rfl rfl rfl) (fun _ _ _ _ h => h)) (pa_cons (pv 1) pa_nil)))
      (pss_one (ps_ret (pe_callB (cr_min rfl) (by rfl) T.n_min (by decide +kernel) (pa_cons (pe_lock (pe_lc (own := [("word", 2), ("number", 3)]) (g := (gTup K 2 (gCons (gName 2) (gCons (gName 3) gNil)))) rfl sc_Counts___floordiv__.nd (pi_items (pe_gFld (K := K) rfl (pv 1) rfl)) (blkOk_by (N := ["self", "other", "word", "number"]) (sc := defScope s_Counts___floordiv__) (by decide +kernel)) (fun _ _ _ _ _ => (pg_gTup (K := K) rfl rfl (pgs_cons (pg_name (i := 2) sc_Counts___floordiv__.nd rfl (.inl rfl)) (pgs_cons (pg_name (i := 3) sc_Counts___floordiv__.nd rfl (.inl rfl)) pgs_nil)))) (fun _ _ _ _ _ => pts_nil) (fun _ _ _ _ _ => (pe_callTy call_gInt (by rfl) T.n_int (by decide +kernel) (pa_cons (pe_op op_gDiv (pe_dget2 (hu_of hr) (pe_gFld (K := K) rfl (pv 0) rfl) (pv 2) pe_int ⟨by rfl, by rfl, by rfl, by rfl⟩) (pv 3)) pa_nil))))) pa_nil)))))), ?_⟩
    walk_at "v"
    refine i_co S hj kl T.ki_Counts T.kit_Counts_Counts ?_
    walk_at "v"
    refine r_cut (fun σ H => ∃ L, σ = [some (.ref p), some (.ref q), none, none] ∧ Told h L ∧ DivOk L ∧ Sep fr H) ?_ ?_
    · walk_at "v"
      refine x_check_divisor S hj (fun L H1 ht hd S1 => ?_) fun L v ht hd d H1 S1 => kX L v ht hd d H1 S1
      walk_at "v"
      exact ⟨L, rfl, ht, hd, S1⟩
    rintro σ H1 ⟨L, rfl, ht, hd, S1⟩
    clear S
    rcases hij with ⟨rfl, rfl⟩ | hij
    · obtain ⟨dd, m, hG, hm, S2⟩ := S1.co hi
      clear S1
      generalize hfr : fr.eraseIdx i = fr1 at S2
      walk_at "v"
      refine lcI2 S2 (hasS has0) (fun od D i H => Sep (At D (.lst (((m.take i).map fun x => g x.1 / x.2).map V.int)) :: Ob p A.c_Counts [("_numbers", .ref dd)] :: At dd (.frz od (.dK (mp m))) :: fr1) H) (fun od D H' S' => S') (fun od D i H S' => S'.at (i := 2) rfl) ?_ ?_ ?_
      · rintro od D i' k' v Tt H3 H4 hi' S3 hT rfl
        obtain ⟨w, n, ew, rfl, rfl⟩ := mp_at hi'
        have S4 := S3.newT (xs := [.str w, .int n]) hT
        rw [show upd H3 Tt (.tup [kV (.inr w), .int n]) = upd H3 Tt (.tup [.str w, .int n]) from rfl]
        generalize upd H3 Tt (.tup [.str w, .int n]) = H4 at S4 ⊢
        have hmem := List.mem_of_getElem? ew
        have en : g w = n := by rw [← hm]; exact num_at hG.1 hmem
        have hn0 : g w ≠ 0 := by rw [en]; exact (hG.2.1 _ hmem).1
        have hpos := div_pos ht hd hn0
        have hlog := div_log hpos (hb w)
        rw [en] at hpos hlog
        rw [take_snoc ew, List.map_append, List.map_append]
        have hil := get_lt ew
        clear S2 S3
        refine lc_turn ?_
        walk_at "v"
        refine ⟨_, _, rfl, rfl, hlog, ?_⟩
        walk_at "v"
        rw [hm]
        refine ⟨_, S4.at (i := 1) rfl, ?_, (S4.upd (i := 1) rfl (fun _ z => nomatch z)).tail⟩
        rw [List.length_map, List.length_map, List.length_take]
        exact Nat.lt_of_le_of_lt (m := 500) (by have := hG.2.2; omega) (by decide)
      · intro od D H3 S3
        have S4 := S3.upd (i := 2) rfl (o' := .dK (mp m)) (fun _ z => nomatch z)
        rw [show (mp m).length = m.length by rw [List.length_map], List.take_length] at S4
        generalize upd H3 dd (.dK (mp m)) = H4 at S4 ⊢
        clear S2 S3
        walk_at "v"
        refine c_min S4 has0 (by rw [List.length_map]; exact div_some hm ht hd) fun n h1 h2 => kN L n _ ht hd (quot_of hG hm h1 h2) ?_
        subst hfr
        exact Sep.coBack hi hG hm S4.tail
      · intro od H' R S' q
        clear S2
        walk_at "v"
        exact q
    · obtain ⟨d1, m1, hG1, hm1, S2⟩ := S1.co hi
      obtain ⟨dd, m, hG, hm, S3⟩ := Sep.co (i := (if j < i then j else j - 1) + 2) S2 (erase_get hij hj)
      clear S1 S2
      replace S3 : Sep (Ob q A.c_Counts [("_numbers", .ref dd)] :: At dd (.dK (mp m)) :: Ob p A.c_Counts [("_numbers", .ref d1)] :: At d1 (.dK (mp m1)) :: (fr.eraseIdx i).eraseIdx (if j < i then j else j - 1)) H1 := S3
      generalize hfr : (fr.eraseIdx i).eraseIdx (if j < i then j else j - 1) = fr1 at S3
      walk_at "v"
      refine lcI2 S3 (hasS has0) (fun od D i H => Sep (At D (.lst (((m.take i).map fun x => g x.1 / x.2).map V.int)) :: Ob q A.c_Counts [("_numbers", .ref dd)] :: At dd (.frz od (.dK (mp m))) :: Ob p A.c_Counts [("_numbers", .ref d1)] :: At d1 (.dK (mp m1)) :: fr1) H) (fun od D H' S' => S') (fun od D i H S' => S'.at (i := 2) rfl) ?_ ?_ ?_
      · rintro od D i' k' v Tt H3 H4 hi' S5 hT rfl
        obtain ⟨w, n, ew, rfl, rfl⟩ := mp_at hi'
        have S4 := S5.newT (xs := [.str w, .int n]) hT
        rw [show upd H3 Tt (.tup [kV (.inr w), .int n]) = upd H3 Tt (.tup [.str w, .int n]) from rfl]
        generalize upd H3 Tt (.tup [.str w, .int n]) = H4 at S4 ⊢
        have hmem := List.mem_of_getElem? ew
        have en : h w = n := by rw [← hm]; exact num_at hG.1 hmem
        have hn0 : h w ≠ 0 := by rw [en]; exact (hG.2.1 _ hmem).1
        have hpos := div_pos ht hd hn0
        have hlog := div_log hpos (hb w)
        rw [en] at hpos hlog
        rw [take_snoc ew, List.map_append, List.map_append]
        have hil := get_lt ew
        clear S3 S5
        refine lc_turn ?_
        walk_at "v"
        refine ⟨_, _, rfl, rfl, hlog, ?_⟩
        walk_at "v"
        rw [hm1]
        refine ⟨_, S4.at (i := 1) rfl, ?_, (S4.upd (i := 1) rfl (fun _ z => nomatch z)).tail⟩
        rw [List.length_map, List.length_map, List.length_take]
        exact Nat.lt_of_le_of_lt (m := 500) (by have := hG.2.2; omega) (by decide)
      · intro od D H3 S5
        have S4 := S5.upd (i := 2) rfl (o' := .dK (mp m)) (fun _ z => nomatch z)
        rw [show (mp m).length = m.length by rw [List.length_map], List.take_length] at S4
        generalize upd H3 dd (.dK (mp m)) = H4 at S4 ⊢
        clear S3 S5
        walk_at "v"
        refine c_min S4 has0 (by rw [List.length_map]; exact div_some hm ht hd) fun n h1 h2 => kN L n _ ht hd (quot_of hG hm h1 h2) ?_
        subst hfr
        exact Sep.coBack hi hG1 hm1 (Sep.coBack (i := (if j < i then j else j - 1) + 2) (l := Ob p A.c_Counts [("_numbers", .ref d1)] :: At d1 (.dK (mp m1)) :: fr.eraseIdx i) (erase_get hij hj) hG hm S4.tail)
      · intro od H' R S' q
        clear S3
        walk_at "v"
        exact q
/-! Counts___mul__ -/
def sp_Counts___mul__ (K : PySem.W.Frag) (A : Ad) : Sp := fun vs H Q _ => ∃ (p : Addr) (g : Str → Int) (n : Int) (i : Nat) (fr : List Asn), vs = [.ref p, .int n] ∧ fr[i]? = some (Co p A.c_Counts g) ∧ Sz g 400 ∧ (∃ B : Nat, (0 < B ∧ B ≤ 9000) ∧ (∀ w, (g w).natAbs < 2 ^ B) ∧ n.natAbs < 2 ^ B) ∧ Sep fr H ∧
  ∀ (r : Addr) (H' : Hp), Sep (Co r A.c_Counts (fun w => g w * n) :: fr) H' → Q (.ref r) H'
theorem ok_Counts___mul__ (T : Txt K mg A) : FnOk P w K mg base CX0 7 A.f_Counts___mul__ A.fd_Counts___mul__ ["self", "other"] (sp_Counts___mul__ K A) := by
  refine T.F_Counts___mul__.ok sc_Counts___mul__ (fun vs H Q E h => ?_) (fun cdv A' outer s0 H vs Q E hr h => ?_)
  · obtain ⟨p, g, n, i, fr, rfl, _⟩ := h
    rfl
  · obtain ⟨p, g, n, i, fr, rfl, hi, hg, ⟨B, hB, hgb, hnb⟩, S, k⟩ := h
    have kl := T.kl_Counts
    obtain ⟨d, m, hG, hm, S1⟩ := S.co hi
    subst hm
    clear S
    generalize hfr : fr.eraseIdx i = fr1 at S1
    have hz := hG.sz rfl hg
    refine ⟨_, (pss_cons (ps_if (pt_not (pt_val (pe_call (ok_is_number T) (hr.mono (by decide)) rfl T.m_is_number T.k_is_number T.b_is_number .nil pass0 (pa_cons (pv 1) pa_nil)))) (pss_one ps_never) pss_nil)
      (pss_one (ps_ret (pe_call (ok_counts_of T) (hr.mono (by decide)) rfl T.m_counts_of T.k_counts_of T.b_counts_of .nil pass0 (pa_cons (pe_lock (pe_lc (own := [("word", 2), ("number", 3)]) (g := (gTup K 2 (gCons (gName 2) (gCons (gName 3) gNil)))) rfl sc_Counts___mul__.nd (pi_items (pe_gFld (K := K) rfl (pv 0) rfl)) (blkOk_by (N := ["self", "other", "word", "number"]) (sc := defScope s_Counts___mul__) (by decide +kernel)) (fun _ _ _ _ _ => (pg_gTup (K := K) rfl rfl (pgs_cons (pg_name (i := 2) sc_Counts___mul__.nd rfl (.inl rfl)) (pgs_cons (pg_name (i := 3) sc_Counts___mul__.nd rfl (.inl rfl)) pgs_nil)))) (fun _ _ _ _ _ => pts_nil) (fun _ _ _ _ _ => (pe_tup (pa_cons (pv 2) (pa_cons (pe_op op_gMul (pv 3) (pv 1)) pa_nil)))))) pa_nil))))), ?_⟩
    walk_at "v"
    refine lcI2 S1 (e := 1) rfl (fun od D i H => ∃ us, us.length ≤ i ∧ Sep (At D (.lst us) :: DVs us (pds (fps (fun w => num m w * n) (keys (m.take i)))) :: Ob p A.c_Counts [("_numbers", .ref d)] :: At d (.frz od (.dK (mp m))) :: fr1) H) (fun od D H' S' => ⟨[], Nat.le_refl _, (S'.addDs .nil).fr1⟩) (fun od D i H ⟨us, _, S'⟩ => S'.at (i := 3) rfl) ?_ ?_ ?_
    · rintro od D i' k' v Tt H1 H2 hi' ⟨us, hu, S3⟩ hT rfl
      obtain ⟨w, n, ew, rfl, rfl⟩ := mp_get' hi'
      have hn : num m w = n := num_at hG.1 (List.mem_of_getElem? ew)
      subst hn
      have S4 : Sep (Tp Tt [V.str w, V.int (num m w)] :: _) (upd H1 Tt (.tup [V.str w, V.int (num m w)])) := S3.newT hT
      show LcT _ _ _ _ _ _ _ _ (upd H1 Tt (.tup [V.str w, V.int (num m w)]))
      generalize upd H1 Tt (.tup [V.str w, V.int (num m w)]) = H2 at S4 ⊢
      have hil := get_lt ew
      rw [show keys (m.take (i' + 1)) = keys (m.take i') ++ [w] by unfold keys; rw [take_snoc ew, List.map_append]; rfl]
      clear S1 S3
      refine lc_turn ?_
      walk_at "v"
      refine o_mulW (wide_mul (hgb w) hnb hB.1 hB.1 (by omega)) ?_
      walk_at "v"
      rename_i q5 H7 S7 H8 S8
      have h1 := fps_snoc (f := fun w => num m w * n) (S8.dvs (i := 3) rfl) (S8.tp (i := 0) rfl)
      exact ⟨_, by rw [List.length_append]; exact Nat.succ_le_succ hu, ((S8.tail.tail.dr1).addDs h1).fr1⟩
    · rintro od D H1 ⟨us, hu, S3⟩
      have S4 := S3.upd (i := 3) rfl (o' := .dK (mp m)) (fun _ z => nomatch z)
      rw [show (mp m).length = m.length by rw [List.length_map], List.take_length] at S4
      replace S4 : Sep (At D (.lst us) :: DVs us (pds (fps (fun w => num m w * n) (keys m))) :: Ob p A.c_Counts [("_numbers", .ref d)] :: At d (.dK (mp m)) :: fr1) (upd H1 d (.dK (mp m))) := S4
      generalize upd H1 d (.dK (mp m)) = H3 at S4 ⊢
      clear S1 S3
      walk_at "v"
      have S5 := ld_close (S4.dvs (i := 1) rfl) (S4.dr1)
      refine c_co_of S5 (i := 0) rfl (by rw [keys_fps]; exact hG.1) (fps_wd fun w hw => by
        obtain ⟨x, hx, e⟩ := List.mem_map.1 hw
        rw [← e]; exact (hG.2.1 x hx).2) (by unfold keys; rw [List.length_map, List.length_map]; omega) fun r H7 S7 => ?_
      rw [num_fps hG.1 (fun w hw => by
        show (num m w * n) = 0
        rw [num_none hw]
        exact Int.zero_mul n)] at S7
      refine k r H7 ?_
      subst hfr
      exact Sep.coBack (i := i + 1) (l := Co r A.c_Counts _ :: fr) hi hG rfl ((S7.dr1).reord [1, 1])
    · intro od H' R S' q
      clear S1
      walk_at "v"
      exact q
theorem c_mul {K : PySem.W.Frag} {A : Ad} {l : List Asn} {H : Hp} {i : Nat} {p : Addr} {g : Str → Int} {n : Int} {Q : VK} {E : XK} (S : Sep l H) (e : l[i]? = some (Co p A.c_Counts g)) (hg : Sz g 400) {B : Nat} (hgb : ∀ w, (g w).natAbs < 2 ^ B) (hnb : n.natAbs < 2 ^ B) (hB : 0 < B ∧ B ≤ 9000)
    (k : ∀ (r : Addr) (H' : Hp), Sep (Co r A.c_Counts (fun w => g w * n) :: l) H' → Q (.ref r) H') : sp_Counts___mul__ K A [.ref p, .int n] H Q E :=
  ⟨p, g, n, i, l, rfl, e, hg, ⟨B, hB, hgb, hnb⟩, S, k⟩
local macro_rules | `(tactic| walk_at "v1") => `(tactic| ((with_reducible refine' c_mul (by assumption) ?hi ?hg ?hb ?hn ?hB ?_); (case hi => walk_at "has"); (case hg => assumption); (case hb => assumption); (case hn => (first | assumption | decide)); (case hB => (first | assumption | decide | omega)); intro _ _ _))
/-! Counts___sub__ -/
def sp_Counts___sub__ (K : PySem.W.Frag) (A : Ad) : Sp := fun vs H Q _ => ∃ (p q : Addr) (g h : Str → Int) (i j : Nat) (fr : List Asn), vs = [.ref p, .ref q] ∧ fr[i]? = some (Co p A.c_Counts g) ∧ fr[j]? = some (Co q A.c_Counts h) ∧ (p = q ∧ g = h ∨ i ≠ j) ∧ Sz g 200 ∧ Sz h 200 ∧ Sep fr H ∧
  ∀ (r : Addr) (H' : Hp), Sep (Co r A.c_Counts (fun w => g w - h w) :: fr) H' → Q (.ref r) H'
theorem ok_Counts___sub__ (T : Txt K mg A) : FnOk P w K mg base CX0 7 A.f_Counts___sub__ A.fd_Counts___sub__ ["self", "other"] (sp_Counts___sub__ K A) := by
  refine T.F_Counts___sub__.ok sc_Counts___sub__ (fun vs H Q E h => ?_) (fun cdv A' outer s0 H vs Q E hr h => ?_)
  · obtain ⟨p, q, g, h, i, j, fr, rfl, _⟩ := h
    rfl
  · obtain ⟨p, q, g, h, i, j, fr, rfl, hi, hj, hij, hg, hh, S, k⟩ := h
    have kl := T.kl_Counts
    have ki := T.ki_Counts
    have kk := T.kit_Counts_Counts
    refine ⟨_, (pss_cons (ps_if (pt_not (pt_val (pe_callB (call_gIsi (K := K) rfl) (by rfl) T.n_isinstance (by decide +kernel) (pa_cons (pv 1) (pa_cons (pe_glob (v := .ref A.c_Counts) rfl T.vm_Counts rfl) pa_nil))))) (pss_one ps_never) pss_nil)
      (pss_one (ps_ret (pe_call (ok_counts_of T) (hr.mono (by decide)) rfl T.m_counts_of T.k_counts_of T.b_counts_of .nil pass0 (pa_cons (pe_lc (own := [("word", 2), ("mine", 3), ("theirs", 4)]) (g := (gTup K 3 (gCons (gName 2) (gCons (gName 3) (gCons (gName 4) gNil))))) rfl sc_Counts___sub__.nd (pi_gList (K := K) rfl (pe_call (ok_beside T) (hr.mono (by decide)) rfl T.m_beside T.k_beside T.b_beside .nil pass0 (pa_cons (pv 0) (pa_cons (pv 1) pa_nil)))) (blkOk_by (N := ["self", "other", "word", "mine", "theirs"]) (sc := defScope s_Counts___sub__) (by decide +kernel)) (fun _ _ _ _ _ => (pg_gTup (K := K) rfl rfl (pgs_cons (pg_name (i := 2) sc_Counts___sub__.nd rfl (.inl rfl)) (pgs_cons (pg_name (i := 3) sc_Counts___sub__.nd rfl (.inl rfl)) (pgs_cons (pg_name (i := 4) sc_Counts___sub__.nd rfl (.inl rfl)) pgs_nil))))) (fun _ _ _ _ _ => pts_nil) (fun _ _ _ _ _ => (pe_tup (pa_cons (pv 2) (pa_cons (pe_op op_gSub (pv 3) (pv 4)) pa_nil))))) pa_nil))))), ?_⟩
    walk_at "v"
    refine c_beside S hi hj hij hg hh fun a ws H2 hb hz S2 => ?_
    obtain ⟨vs, hvs, S3⟩ := ld_open S2
    have hvl := tri_len hvs
    clear S S2
    walk_at "v"
    refine lcL S3 has0 (fun B i H => ∃ us, us.length ≤ i ∧ Sep (At B (.lst us) :: DVs us (pds (fps (fun w => g w - h w) (ws.take i))) :: At a (.lst vs) :: DVs vs (tri g h ws) :: fr) H) (fun B H' S' => ⟨[], Nat.le_refl _, (S'.addDs .nil).fr1⟩) (fun B i H ⟨us, _, S'⟩ => S'.at (i := 2) rfl) ?_ ?_
    · rintro B i' x H6 hx ⟨us, hu, S4⟩
      obtain ⟨q', w, ew, rfl, hq⟩ := tri_get (S4.dvs (i := 3) rfl) hx
      have S5 := S4.addT hq
      have hil := get_lt ew
      rw [take_snoc ew]
      clear S3 S4
      refine lc_turn ?_
      walk_at "v"
      rename_i q5 H7 S7 H8 S8
      have h1 := fps_snoc (f := fun w => g w - h w) (S8.dvs (i := 3) rfl) (S8.tp (i := 0) rfl)
      exact ⟨_, by rw [List.length_append]; exact Nat.succ_le_succ hu, ((S8.tail.tail.dr1).addDs h1).fr1⟩
    · rintro B H6 ⟨us, hu, S4⟩
      rw [hvl, List.take_length] at S4
      clear S3
      walk_at "v"
      have S5 := ld_close (S4.dvs (i := 1) rfl) (S4.dr1.dr1.dr1)
      refine c_co_of S5 (i := 0) rfl (by rw [keys_fps]; exact hb.1) (fps_wd hb.2.1) (by rw [List.length_map]; omega) fun r H7 S7 => ?_
      rw [num_fps hb.1 (fun w hw => by
        obtain ⟨ha, hb⟩ := hb.2.2 w hw
        show (g w - h w) = 0
        rw [ha, hb]; rfl)] at S7
      exact k r H7 S7.dr1
theorem c_sub {K : PySem.W.Frag} {A : Ad} {l : List Asn} {H : Hp} {i j : Nat} {p q : Addr} {g h : Str → Int} {Q : VK} {E : XK} (S : Sep l H) (e : l[i]? = some (Co p A.c_Counts g)) (e2 : l[j]? = some (Co q A.c_Counts h)) (hd : p = q ∧ g = h ∨ i ≠ j) (hg : Sz g 200) (hh : Sz h 200)
    (k : ∀ (r : Addr) (H' : Hp), Sep (Co r A.c_Counts (fun w => g w - h w) :: l) H' → Q (.ref r) H') : sp_Counts___sub__ K A [.ref p, .ref q] H Q E :=
  ⟨p, q, g, h, i, j, l, rfl, e, e2, hd, hg, hh, S, k⟩
local macro_rules | `(tactic| walk_at "v1") => `(tactic| ((with_reducible refine' c_sub (by assumption) ?hi ?hj ?hd ?hg ?hh ?_); (case hi => walk_at "has"); (case hj => walk_at "has"); (case hd => (first | exact .inl ⟨rfl, rfl⟩ | exact .inr (by omega) | (refine Or.imp (fun z => z) (fun z => ?_) (by assumption); omega))); (case hg => assumption); (case hh => assumption); intro _ _ _))
/-! Counts___mod__ -/
--needs Counts___floordiv__
theorem x_div {K : PySem.W.Frag} {A : Ad} {l : List Asn} {H : Hp} {i j : Nat} {p q : Addr} {g h : Str → Int} {Q : VK} {E : XK} (S : Sep l H) (e : l[i]? = some (Co p A.c_Counts g)) (e2 : l[j]? = some (Co q A.c_Counts h)) (hd : p = q ∧ g = h ∨ i ≠ j) (hb : ∀ w, (h w).natAbs < 2 ^ 1000) (kN : ∀ L n H', Told h L → DivOk L → QuotOf g h n → Sep l H' → Q (.int n) H') (kX : ∀ L v, Told h L → DivBad L v → ∀ d H', Sep (At d (.xd [("word", v)]) :: l) H' → E (.ref A.c_NoDivisor) (some d) H') : spX_Counts___floordiv__ K A [.ref p, .ref q] H Q E :=
  ⟨p, q, g, h, i, j, l, rfl, e, e2, hd, hb, S, kN, kX⟩
theorem quot_big {g h : Str → Int} {n : Int} {B : Nat} (h1 : QuotOf g h n) (hg : ∀ w, (g w).natAbs < B) : n.natAbs < B := by
  obtain ⟨⟨w, _, rfl⟩, _⟩ := h1
  exact Nat.lt_of_le_of_lt (Int.natAbs_ediv_le_natAbs _ _) (hg w)
theorem sz_times {h : Str → Int} {n : Int} {k : Nat} (hh : Sz h k) : Sz (fun w => h w * n) k := hh.map _ fun w z => by rw [z]; exact Int.zero_mul _
def spX_Counts___mod__ (K : PySem.W.Frag) (A : Ad) : Sp := fun vs H Q E => ∃ (p q : Addr) (g h : Str → Int) (i j : Nat) (fr : List Asn), vs = [.ref p, .ref q] ∧ fr[i]? = some (Co p A.c_Counts g) ∧ fr[j]? = some (Co q A.c_Counts h) ∧ (p = q ∧ g = h ∨ i ≠ j) ∧ (Sz g 200 ∧ Sz h 200) ∧ ((∀ w, (g w).natAbs < 2 ^ 1000) ∧ ∀ w, (h w).natAbs < 2 ^ 1000) ∧ Sep fr H ∧
  (∀ L n r H', Told h L → DivOk L → QuotOf g h n → Sep (Co r A.c_Counts (fun w => g w - h w * n) :: fr) H' → Q (.ref r) H') ∧ ∀ L v, Told h L → DivBad L v → ∀ d H', Sep (At d (.xd [("word", v)]) :: fr) H' → E (.ref A.c_NoDivisor) (some d) H'
theorem okX_Counts___mod__ (T : Txt K mg A) : FnOk P w K mg base (L2.CX P w) 9 A.f_Counts___mod__ A.fd_Counts___mod__ ["self", "other"] (spX_Counts___mod__ K A) := by
  refine T.F_Counts___mod__.okX sc_Counts___mod__ (fun vs H Q E h => ?_) (fun cdv A' outer s0 H vs Q E hr h => ?_)
  · obtain ⟨p, q, g, h, i, j, fr, rfl, _⟩ := h
    rfl
  · obtain ⟨p, q, g, h, i, j, fr, rfl, hi, hj, hij, ⟨hg, hh⟩, ⟨bg, bh⟩, S, kN, kX⟩ := h
    have kl := T.kl_Counts
    have ki := T.ki_Counts
    have kk := T.kit_Counts_Counts
    refine ⟨_, (pss_cons (ps_if (pt_not (pt_val (pe_callB (call_gIsi (K := K) rfl) (by rfl) T.n_isinstance (by decide +kernel) (pa_cons (pv 1) (pa_cons (pe_glob (v := .ref A.c_Counts) rfl T.vm_Counts rfl) pa_nil))))) (pss_one ps_never) pss_nil)
      (pss_one (ps_ret (pe_op (op_ownBin (op := .Sub) T.mt_Counts___sub__ T.sf_Counts (raw0 (K := K) (ok_Counts___sub__ (K := K) T) T.b_Counts___sub__) (hr.mono (by decide)) pass0) (pv 0) (pe_op (op_mulI T.mi_Counts T.mt_Counts___mul__ T.sf_Counts (raw0 (K := K) (ok_Counts___mul__ (K := K) T) T.b_Counts___mul__) (hr.mono (by decide)) pass0) (pv 1) (pe_op (op_ownBin (op := .FloorDiv) T.mt_Counts___floordiv__ T.sf_Counts (raw0 (K := K) (okX_Counts___floordiv__ (K := K) T) T.b_Counts___floordiv__) (hr.mono (by decide)) (passes_call (takes_of rfl rfl rfl rfl) (fun _ _ _ _ h => h))) (pv 0) (pv 1))))))), ?_⟩
    walk_at "v"
    refine x_div S hi hj hij bh (fun L n H1 ht hd hq S1 => ?_) fun L v ht hd d H1 S1 => kX L v ht hd d H1 S1
    have hn := quot_big hq bg
    clear S
    walk_at "v"
    refine c_mul S1 hj (hh.le (by decide)) bh hn (by decide) fun r1 H2 S2 => ?_
    walk_at "v"
    refine c_sub S2 (i := i + 1) (j := 0) hi rfl (.inr (by omega)) hg (sz_times hh) fun r2 H3 S3 => ?_
    walk_at "v"
    exact kN L n r2 _ ht hd hq S3.dr1
theorem x_mod {K : PySem.W.Frag} {A : Ad} {l : List Asn} {H : Hp} {i j : Nat} {p q : Addr} {g h : Str → Int} {Q : VK} {E : XK} (S : Sep l H) (e : l[i]? = some (Co p A.c_Counts g)) (e2 : l[j]? = some (Co q A.c_Counts h)) (hd : p = q ∧ g = h ∨ i ≠ j) (hg : Sz g 200 ∧ Sz h 200) (hb : (∀ w, (g w).natAbs < 2 ^ 1000) ∧ ∀ w, (h w).natAbs < 2 ^ 1000) (kN : ∀ L n r H', Told h L → DivOk L → QuotOf g h n → Sep (Co r A.c_Counts (fun w => g w - h w * n) :: l) H' → Q (.ref r) H') (kX : ∀ L v, Told h L → DivBad L v → ∀ d H', Sep (At d (.xd [("word", v)]) :: l) H' → E (.ref A.c_NoDivisor) (some d) H') : spX_Counts___mod__ K A [.ref p, .ref q] H Q E :=
  ⟨p, q, g, h, i, j, l, rfl, e, e2, hd, hg, hb, S, kN, kX⟩
/-! law_refused -/
--needs Counts___mod__
theorem ok_bad {L : List (Str × Int)} {v : V} (h : DivOk L) (h2 : DivBad L v) : False := by
  rcases h2 with ⟨e, _⟩ | ⟨i, x, ex, hx, _, _⟩
  · exact h.1 e
  · have := h.2 x (List.mem_of_getElem? ex)
    omega
theorem bad_same {L : List (Str × Int)} {v u : V} (h : DivBad L v) (h2 : DivBad L u) : v = u := by
  have hlt : ∀ {i j : Nat} {x : Str × Int}, L[i]? = some x → i < j → x ∈ L.take j := fun {i j x} ex hij =>
    List.mem_of_getElem? (i := i) (by rw [List.getElem?_take, if_pos hij]; exact ex)
  rcases h with ⟨e, rfl⟩ | ⟨i, x, ex, hx, hi, rfl⟩ <;> rcases h2 with ⟨e2, rfl⟩ | ⟨j, y, ey, hy, hj, rfl⟩
  · rfl
  · rw [e] at ey; cases ey
  · rw [e2] at ex; cases ex
  · rcases Nat.lt_trichotomy i j with z | z | z
    · exact absurd hx (hj x (hlt ex z))
    · subst z
      rw [ex] at ey; cases ey; rfl
    · exact absurd hy (hi y (hlt ey z))
theorem eq_lss8 {l : List Asn} {H : Hp} {p p2 : Addr} {K : PySem.W.Frag} {Q : VK} {e e2 : Nat} {ws us : List Str} (S : Sep l H) (hi : l[e]? = some (At p (.lst (ws.map V.str)))) (hj : l[e2]? = some (At p2 (.lst (us.map V.str)))) (h1 : ∀ w ∈ ws, Wd w) (h2 : ∀ w ∈ us, Wd w) (q : Q (.bl (decide (ws = us))) H) : gEq K (.ref p) (.ref p2) H Q :=
  .inr ⟨.list (dStrs ws), .list (dStrs us), .lst (SqL.of (S.at hi)) (dp_strs ws), .lst (SqL.of (S.at hj)) (dp_strs us), shaped_lst (flat_dstrs h1), shaped_lst (flat_dstrs h2), by rw [PyData.eqv, eqv_dstrs]; exact q⟩
theorem eq_two {l : List Asn} {H : Hp} {p p2 : Addr} {v : V} {i j : Nat} {K : PySem.W.Frag} {Q : VK} (S : Sep l H) (hi : l[i]? = some (At p (.lst [v, v]))) (hj : l[j]? = some (At p2 (.lst [v, v]))) (hv : v = .non ∨ ∃ w, v = .str w ∧ Wd w) (q : Q (.bl true) H) : gEq K (.ref p) (.ref p2) H Q := by
  rcases hv with rfl | ⟨w, rfl, hw⟩
  · refine .inr ⟨.list [.none, .none], .list [.none, .none], .lst (SqL.of (S.at hi)) (.cons .non (.cons .non .nil)), .lst (SqL.of (S.at hj)) (.cons .non (.cons .non .nil)), shaped_lst (fun d hd => ?_), shaped_lst (fun d hd => ?_), ?_⟩
    · simp only [List.mem_cons, List.not_mem_nil, or_false, or_self] at hd
      subst hd
      exact ⟨by rw [PyData.canLay0], by rw [PyData.depth]⟩
    · simp only [List.mem_cons, List.not_mem_nil, or_false, or_self] at hd
      subst hd
      exact ⟨by rw [PyData.canLay0], by rw [PyData.depth]⟩
    · rw [show PyData.eqv (.list [.none, .none]) (.list [.none, .none]) = true by simp [PyData.eqv, PyData.eqvAll]]
      exact q
  · have hw2 : ∀ u ∈ [w, w], Wd u := fun u hu => by
      simp only [List.mem_cons, List.not_mem_nil, or_false, or_self] at hu
      exact hu ▸ hw
    have h := eq_lss8 (K := K) (ws := [w, w]) (us := [w, w]) (Q := Q) S hi hj hw2 hw2
    rw [decide_eq_true (rfl : [w, w] = [w, w])] at h
    exact h q
def sp_law_refused (K : PySem.W.Frag) (A : Ad) : Sp := fun vs H Q _ => ∃ (p q : Addr) (g h : Str → Int) (v : V) (L : List (Str × Int)) (i j : Nat) (fr : List Asn), vs = [.ref p, .ref q, v] ∧ fr[i]? = some (Co p A.c_Counts g) ∧ fr[j]? = some (Co q A.c_Counts h) ∧ (p = q ∧ g = h ∨ i ≠ j) ∧ (Sz g 200 ∧ Sz h 200) ∧ ((∀ w, (g w).natAbs < 2 ^ 1000) ∧ ∀ w, (h w).natAbs < 2 ^ 1000) ∧ (Told h L ∧ DivBad L v) ∧ (v = .non ∨ ∃ w, v = .str w ∧ Wd w) ∧ Sep fr H ∧ ∀ H', Sep fr H' → Q (.bl true) H'
theorem ok_law_refused (T : Txt K mg A) : FnOk P w K mg base CX0 11 A.f_law_refused A.fd_law_refused ["counts", "divisor", "word"] (sp_law_refused K A) := by
  refine T.F_law_refused.ok sc_law_refused (fun vs H Q E h => ?_) (fun cdv A' outer s0 H vs Q E hr h => ?_)
  · obtain ⟨p, q, g, h, v, L, i, j, fr, rfl, _⟩ := h
    rfl
  · obtain ⟨p, q, g, h, v, L, i, j, fr, rfl, hi, hj, hij, hz, hb, ⟨ht, hd⟩, hw, S, k⟩ := h
    refine ⟨_, (pss_cons (ps_set (i := 3) sc_law_refused.nd rfl (.inl rfl) (pe_lst pa_nil))
      (pss_cut (ps_gTryAs (K := K) (i := 4) rfl rfl rfl sc_law_refused.nd rfl rfl ⟨rfl, by decide, .inl T.vm_NoDivisor⟩ takes0 (fun W pn xe tk hpo => (pss_one (ps_expr (pe_gBm (K := K) rfl PySem.F.plainAttrs_list PySem.F.slot_list_append PySem.F.type_list_append mt_append (pv 3) (pa_cons (pe_opS (op := .FloorDiv) T.mt_Counts___floordiv__ T.sf_Counts (raw0 (K := K) (okX_Counts___floordiv__ (K := K) T) T.b_Counts___floordiv__) (hr.mono (by decide)) (fun σ => passAt tk σ) (pv 0) (pv 1)) pa_nil))))) (fun a oe cls d pn hz hf => (pss_cons (ps_expr (pe_gBm (K := K) rfl PySem.F.plainAttrs_list PySem.F.slot_list_append PySem.F.type_list_append mt_append (pv 3) (pa_cons (pe_gXf (K := K) rfl T.xf_NoDivisor T.xn_NoDivisor_word hz hf (pv 4)) pa_nil)))
      (pss_one (ps_if (PW.pt (pw_or (pt_val (pe_callB (call_isD (K := K) rfl T.xc_NoDivisor hz hf) (by rfl) T.n_isinstance (by decide +kernel) (pa_cons (pv 4) (pa_cons (pe_glob (v := .ref A.c_CountsheldError) rfl T.vm_CountsheldError rfl) pa_nil)))) (pw_or1 (pt_not (pt_val (pe_callB (call_isD (K := K) rfl T.xc_NoDivisor hz hf) (by rfl) T.n_isinstance (by decide +kernel) (pa_cons (pv 4) (pa_cons (pe_bltn (v := .ty "ZeroDivisionError") (by rfl) T.n_ZeroDivisionError (by decide +kernel) rfl) pa_nil)))))))) (pss_one (ps_ret pe_bl)) pss_nil)))))
      (pss_cut (ps_gTryAs (K := K) (i := 4) rfl rfl rfl sc_law_refused.nd rfl rfl ⟨rfl, by decide, .inl T.vm_NoDivisor⟩ takes0 (fun W pn xe tk hpo => (pss_one (ps_expr (pe_gBm (K := K) rfl PySem.F.plainAttrs_list PySem.F.slot_list_append PySem.F.type_list_append mt_append (pv 3) (pa_cons (pe_opS (op := .Mod) T.mt_Counts___mod__ T.sf_Counts (raw0 (K := K) (okX_Counts___mod__ (K := K) T) T.b_Counts___mod__) (hr.mono (by decide)) (fun σ => passAt tk σ) (pv 0) (pv 1)) pa_nil))))) (fun a oe cls d pn hz hf => (pss_one (ps_expr (pe_gBm (K := K) rfl PySem.F.plainAttrs_list PySem.F.slot_list_append PySem.F.type_list_append mt_append (pv 3) (pa_cons (pe_gXf (K := K) rfl T.xf_NoDivisor T.xn_NoDivisor_word hz hf (pv 4)) pa_nil))))))
      (pss_one (ps_ret (pe_and (pe_cmpR (op_gEq (K := K) rfl hr.units) (pv 3) (pe_lst (pa_cons (pv 2) (pa_cons (pv 2) pa_nil))) (nomark _)) (pe_one (pe_not (pe_call (ok_law_is_integer T) (hr.mono (by decide)) rfl T.m_law_is_integer T.k_law_is_integer T.b_law_is_integer .nil pass0 (pa_cons (pe_ix (ix_g (K := K) rfl) (pv 3) pe_int (fun _ _ => rfl)) pa_nil)))))))))), ?_⟩
    have hij' : p = q ∧ g = h ∨ i + 1 ≠ j + 1 := hij.imp (fun z => z) (fun z => by omega)
    walk_at "v"
    rename_i f H1 S1
    clear S
    refine r_cut (fun σ H => σ = [some (.ref p), some (.ref q), some v, some (.ref f), none] ∧ Sep (At f (.lst [v]) :: fr) H) ?_ ?_
    · walk_at "v"
      refine x_div S1 (i := i + 1) (j := j + 1) hi hj hij' hb.2 (fun L2 n H2 ht2 hd2 _ _ => ?_) fun L2 v2 ht2 hd2 d H2 S2 => w_as T.te_NoDivisor_NoDivisor fun a ha => ?_
      · rw [← told_same ht ht2] at hd2
        exact (ok_bad hd2 hd).elim
      · rw [← told_same ht ht2] at hd2
        have e := bad_same hd hd2
        subst e
        clear S1
        walk_at "v"
        rename_i H3 S3
        refine c_isD (b := false) S3 has0 (.own _) T.kit_NoDivisor_CountsheldError ?_
        walk_at "v"
        refine c_isD (b := true) S3 has0 (.ty _) T.kit_NoDivisor_ZeroDivisionError ?_
        walk_at "v"
        exact ⟨rfl, S3.tail⟩
    clear S1
    rintro σ H2 ⟨rfl, S2⟩
    refine r_cut (fun σ H => σ = [some (.ref p), some (.ref q), some v, some (.ref f), none] ∧ Sep (At f (.lst [v, v]) :: fr) H) ?_ ?_
    · walk_at "v"
      refine x_mod S2 (i := i + 1) (j := j + 1) hi hj hij' hz hb (fun L2 n r H3 ht2 hd2 _ _ => ?_) fun L2 v2 ht2 hd2 d H3 S3 => w_as T.te_NoDivisor_NoDivisor fun a ha => ?_
      · rw [← told_same ht ht2] at hd2
        exact (ok_bad hd2 hd).elim
      · rw [← told_same ht ht2] at hd2
        have e := bad_same hd hd2
        subst e
        clear S2
        walk_at "v"
        refine m_append S3 (e := 1) rfl (by show 1 < 100000; decide) fun H4 S4 => ?_
        exact ⟨rfl, S4.tail⟩
    clear S2
    rintro σ H3 ⟨rfl, S3⟩
    walk_at "v"
    rename_i f2 H4 S4
    refine eq_two S4 (hasS has0) has0 hw ?_
    walk_at "v"
    refine c_isintN (hw.imp (fun z => z) fun ⟨w, z, _⟩ => ⟨w, z⟩) ?_
    walk_at "v"
    exact k _ (S4.drops [0, 0])
theorem c_refused {K : PySem.W.Frag} {A : Ad} {l : List Asn} {H : Hp} {p q : Addr} {g h : Str → Int} {v : V} {L : List (Str × Int)} {i j : Nat} {Q : VK} {E : XK} (S : Sep l H) (e : l[i]? = some (Co p A.c_Counts g)) (e2 : l[j]? = some (Co q A.c_Counts h)) (hd : p = q ∧ g = h ∨ i ≠ j) (hg : Sz g 200 ∧ Sz h 200) (hb : (∀ w, (g w).natAbs < 2 ^ 1000) ∧ ∀ w, (h w).natAbs < 2 ^ 1000) (ht : Told h L ∧ DivBad L v) (hv : v = .non ∨ ∃ w, v = .str w ∧ Wd w) (k : ∀ H', Sep l H' → Q (.bl true) H') : sp_law_refused K A [.ref p, .ref q, v] H Q E :=
  ⟨p, q, g, h, v, L, i, j, l, rfl, e, e2, hd, hg, hb, ht, hv, S, k⟩
/-! Counts_only -/
--needs law_told
theorem num_pick (ws : List Str) : ∀ m : List (Str × Int), num (m.filter fun x => decide (x.1 ∈ ws)) = fun w => if w ∈ ws then num m w else 0
  | [] => funext fun w => by show (0 : Int) = if _ then 0 else 0; rw [ite_self]
  | x :: m => funext fun w => by
    have ih := congrFun (num_pick ws m) w
    by_cases h : x.1 ∈ ws
    · rw [List.filter_cons, if_pos (decide_eq_true h)]
      show (if x.1 = w then x.2 else num (m.filter _) w) = if w ∈ ws then (if x.1 = w then x.2 else num m w) else 0
      rw [ih]
      by_cases e : x.1 = w
      · rw [if_pos e, if_pos e, if_pos (e ▸ h)]
      · rw [if_neg e, if_neg e]
    · rw [List.filter_cons, if_neg (by rw [decide_eq_false h]; exact Bool.false_ne_true), ih]
      show _ = if w ∈ ws then (if x.1 = w then x.2 else num m w) else 0
      by_cases e : x.1 = w
      · have hw : ¬ w ∈ ws := e ▸ h
        rw [if_neg hw, if_neg hw]
      · rw [if_neg e]
def sp_Counts_only (K : PySem.W.Frag) (A : Ad) : Sp := fun vs H Q _ => ∃ (p t : Addr) (g : Str → Int) (ws : List Str) (fr : List Asn), vs = [.ref p, .ref t] ∧ Sep (Co p A.c_Counts g :: Tp t (ws.map V.str) :: fr) H ∧ ∀ p' H', Sep (Co p' A.c_Counts (fun w => if w ∈ ws then g w else 0) :: Co p A.c_Counts g :: fr) H' → Q (.ref p') H'
theorem okR_Counts_only (T : Txt K mg A) : FnR P w K mg base CX0 7 A.f_Counts_only (stSp 1 (sp_Counts_only K A)) := by
  refine fun_star (ps := ["self"]) (pv := "words") T.F_Counts_only sc_Counts_only (fun kV doc pm an cdv ct => StX.bind_star1 (B := fun vs => bindArgs (PySem.W.fnOf "only" "Counts.only" (defArgs s_Counts_only) (defBody s_Counts_only) (defScope s_Counts_only) .none kV doc pm an cdv ct) ⟨vs, []⟩) (fun a => rfl) (fun a r rs => rfl)) (fun cdv A' outer s0 H vs Q E hr h => ?_)
  · obtain ⟨p, t, g, ws, fr, rfl, S, k⟩ := h
    have kl := T.kl_Counts
    obtain ⟨dd, m, ⟨hn, hm, hz⟩, rfl, S2⟩ := co_open S
    clear S
    refine ⟨_, (pss_one (ps_ret (pe_call (ok_counts_of T) (hr.mono (by decide)) rfl T.m_counts_of T.k_counts_of T.b_counts_of .nil pass0 (pa_cons (pe_lock (pe_lc (own := [("word", 2), ("number", 3)]) (g := (gTup K 2 (gCons (gName 2) (gCons (gName 3) gNil)))) rfl sc_Counts_only.nd (pi_items (pe_gFld (K := K) rfl (pv 0) rfl)) (blkOk_by (N := ["self", "words", "word", "number"]) (sc := defScope s_Counts_only) (by decide +kernel)) (fun _ _ _ _ _ => (pg_gTup (K := K) rfl rfl (pgs_cons (pg_name (i := 2) sc_Counts_only.nd rfl (.inl rfl)) (pgs_cons (pg_name (i := 3) sc_Counts_only.nd rfl (.inl rfl)) pgs_nil)))) (fun _ _ _ _ _ => (pts_one (pt_cmpR (op_gIn (K := K) rfl) (pv 2) (pv 1) (by rfl)))) (fun _ _ _ _ _ => (pe_tup (pa_cons (pv 2) (pa_cons (pv 3) pa_nil)))))) pa_nil)))), ?_⟩
    walk_at "v"
    refine lcI2 S2 (hasS has0) (fun od D i H => ∃ vs, vs.length ≤ i ∧ Sep (At D (.lst vs) :: DVs vs (pds ((m.take i).filter fun x => decide (x.1 ∈ ws))) :: Ob p A.c_Counts [("_numbers", .ref dd)] :: At dd (.frz od (.dK (mp m))) :: Tp t (ws.map V.str) :: fr) H) (fun od D H' S' => ⟨[], Nat.le_refl _, (S'.addDs .nil).fr1⟩) (fun od D i H ⟨vs, _, S'⟩ => S'.at (i := 3) rfl) ?_ ?_ ?_
    · rintro od D i k' v Tt H1 H2 hi ⟨vs, hv, S3⟩ hT rfl
      obtain ⟨x, n, ex, rfl, rfl⟩ := mp_get hi
      have S4 : Sep (Tp Tt [V.str x, V.int n] :: _) (upd H1 Tt (.tup [V.str x, V.int n])) := S3.newT hT
      show LcT _ _ _ _ _ _ _ _ (upd H1 Tt (.tup [V.str x, V.int n]))
      generalize upd H1 Tt (.tup [V.str x, V.int n]) = H2 at S4 ⊢
      have et : (m.take (i + 1)).filter (fun y => decide (y.1 ∈ ws)) = (m.take i).filter (fun y => decide (y.1 ∈ ws)) ++ (if x ∈ ws then [(x, n)] else []) := by
        rw [take_snoc ex, List.filter_append]
        by_cases h : x ∈ ws
        · rw [if_pos h, List.filter_cons, if_pos (decide_eq_true h)]; rfl
        · rw [if_neg h, List.filter_cons, if_neg (by rw [decide_eq_false h]; exact Bool.false_ne_true)]; rfl
      rw [et]
      have hl := get_lt ex
      generalize ((m.take i).filter fun y => decide (y.1 ∈ ws)) = F at *
      clear S2 S3 et
      refine lc_turn ?_
      walk_at "v"
      refine in_tups (SqT.of (S4.tp (i := 5) rfl)) ?_
      walk_at "v"
      by_cases hw : x ∈ ws
      · rw [if_pos (decide_eq_true hw), if_pos hw]
        walk_at "v"
        rename_i q5 H5 S5 H6 S6
        have h1 := IsDs.snoc (pair_isD (S6.tp (i := 0) rfl)) (S6.dvs (i := 3) rfl)
        have e : pds F ++ [pd (x, n)] = pds (F ++ [(x, n)]) := by simp
        rw [e] at h1
        exact ⟨_, by rw [List.length_append]; exact Nat.succ_le_succ hv, (S6.tail.tail.dr1.addDs h1).fr1⟩
      · rw [if_neg (by rw [decide_eq_false hw]; exact Bool.false_ne_true), if_neg hw, List.append_nil]
        exact ⟨vs, by omega, S4.tail⟩
    · rintro od D H1 ⟨vs, hv, S3⟩
      have S4 := S3.upd (i := 3) rfl (o' := .dK (mp m)) (fun _ z => nomatch z)
      rw [show (mp m).length = m.length by rw [List.length_map], List.take_length] at S4
      generalize upd H1 dd (.dK (mp m)) = H3 at S4 ⊢
      clear S2 S3
      walk_at "v"
      have h1 := S4.dvs (i := 1) rfl
      refine ⟨D, m.filter fun x => decide (x.1 ∈ ws), Ob p A.c_Counts [("_numbers", .ref dd)] :: At dd (.dK (mp m)) :: fr, rfl, List.Nodup.sublist (List.Sublist.map _ List.filter_sublist) hn, fun x hx => (hm x (List.mem_filter.1 hx).1).2, Nat.le_trans (List.length_filter_le _ _) hz, ld_close h1 ((show Sep (At D (.lst vs) :: DVs vs _ :: Ob p A.c_Counts [("_numbers", .ref dd)] :: At dd (.dK (mp m)) :: Tp t (ws.map V.str) :: fr) H3 from S4).dr1.reord [0, 0, 0]).dr3, fun p' H4 S5 => k p' H4 ?_⟩
      rw [← num_pick]
      exact (co_close ⟨hn, hm, hz⟩ rfl (S5.dr1.reord [1, 1])).fr1
    · intro od H' R S' q
      clear S2
      walk_at "v"
      exact q
theorem c_only {K : PySem.W.Frag} {A : Ad} {l : List Asn} {H : Hp} {i : Nat} {p : Addr} {g : Str → Int} {ws : List Str} {Q : VK} {E : XK} (S : Sep l H) (e : l[i]? = some (Co p A.c_Counts g)) (hz : ws.length ≤ 100) (k : ∀ p' H', Sep (Co p' A.c_Counts (fun w => if w ∈ ws then g w else 0) :: l) H' → Q (.ref p') H') : stSp 1 (sp_Counts_only K A) ([V.ref p] ++ ws.map V.str) H Q E :=
  st_call (ws := [V.ref p]) (rest := ws.map V.str) S (by rw [List.length_map]; omega) fun t H2 S2 => ⟨p, t, g, ws, l.eraseIdx i, rfl, S2.pick (i := i + 1) e, fun p' H' S' => k p' H' (Sep.backS (i := i + 1) (l := _ :: l) e S'.fr1)⟩
/-! Counts___rmul__ -/
def sp_Counts___rmul__ (K : PySem.W.Frag) (A : Ad) : Sp := fun vs H Q _ => ∃ (p : Addr) (g : Str → Int) (n : Int) (i : Nat) (fr : List Asn), vs = [.ref p, .int n] ∧ fr[i]? = some (Co p A.c_Counts g) ∧ Sz g 400 ∧ (∃ B : Nat, (0 < B ∧ B ≤ 9000) ∧ (∀ w, (g w).natAbs < 2 ^ B) ∧ n.natAbs < 2 ^ B) ∧ Sep fr H ∧
  ∀ (r : Addr) (H' : Hp), Sep (Co r A.c_Counts (fun w => g w * n) :: fr) H' → Q (.ref r) H'
theorem ok_Counts___rmul__ (T : Txt K mg A) : FnOk P w K mg base CX0 9 A.f_Counts___rmul__ A.fd_Counts___rmul__ ["self", "other"] (sp_Counts___rmul__ K A) := by
  refine T.F_Counts___rmul__.ok sc_Counts___rmul__ (fun vs H Q E h => ?_) (fun cdv A' outer s0 H vs Q E hr h => ?_)
  · obtain ⟨p, g, n, i, fr, rfl, _⟩ := h
    rfl
  · obtain ⟨p, g, n, i, fr, rfl, hi, hg, ⟨B, hB, hgb, hnb⟩, S, k⟩ := h
    have kl := T.kl_Counts
    refine ⟨_, (pss_cons (ps_if (pt_not (pt_val (pe_call (ok_is_number T) (hr.mono (by decide)) rfl T.m_is_number T.k_is_number T.b_is_number .nil pass0 (pa_cons (pv 1) pa_nil)))) (pss_one ps_never) pss_nil)
      (pss_one (ps_ret (pe_op (op_mulI T.mi_Counts T.mt_Counts___mul__ T.sf_Counts (raw0 (K := K) (ok_Counts___mul__ (K := K) T) T.b_Counts___mul__) (hr.mono (by decide)) pass0) (pv 0) (pv 1))))), ?_⟩
    walk_at "v"
    exact k _ _ (by assumption)
theorem c_rmul {K : PySem.W.Frag} {A : Ad} {l : List Asn} {H : Hp} {i : Nat} {p : Addr} {g : Str → Int} {n : Int} {Q : VK} {E : XK} (S : Sep l H) (e : l[i]? = some (Co p A.c_Counts g)) (hg : Sz g 400) {B : Nat} (hgb : ∀ w, (g w).natAbs < 2 ^ B) (hnb : n.natAbs < 2 ^ B) (hB : 0 < B ∧ B ≤ 9000)
    (k : ∀ (r : Addr) (H' : Hp), Sep (Co r A.c_Counts (fun w => g w * n) :: l) H' → Q (.ref r) H') : sp_Counts___rmul__ K A [.ref p, .int n] H Q E :=
  ⟨p, g, n, i, l, rfl, e, hg, ⟨B, hB, hgb, hnb⟩, S, k⟩
local macro_rules | `(tactic| walk_at "v1") => `(tactic| ((with_reducible refine' c_rmul (by assumption) ?hi ?hg ?hb ?hn ?hB ?_); (case hi => walk_at "has"); (case hg => assumption); (case hb => assumption); (case hn => (first | assumption | decide)); (case hB => (first | assumption | decide | omega)); intro _ _ _))
/-! Counts___add__ -/
def sp_Counts___add__ (K : PySem.W.Frag) (A : Ad) : Sp := fun vs H Q _ => ∃ (p q : Addr) (g h : Str → Int) (i j : Nat) (fr : List Asn), vs = [.ref p, .ref q] ∧ fr[i]? = some (Co p A.c_Counts g) ∧ fr[j]? = some (Co q A.c_Counts h) ∧ (p = q ∧ g = h ∨ i ≠ j) ∧ Sz g 200 ∧ Sz h 200 ∧ Sep fr H ∧
  ∀ (r : Addr) (H' : Hp), Sep (Co r A.c_Counts (fun w => g w + h w) :: fr) H' → Q (.ref r) H'
theorem ok_Counts___add__ (T : Txt K mg A) : FnOk P w K mg base CX0 7 A.f_Counts___add__ A.fd_Counts___add__ ["self", "other"] (sp_Counts___add__ K A) := by
  refine T.F_Counts___add__.ok sc_Counts___add__ (fun vs H Q E h => ?_) (fun cdv A' outer s0 H vs Q E hr h => ?_)
  · obtain ⟨p, q, g, h, i, j, fr, rfl, _⟩ := h
    rfl
  · obtain ⟨p, q, g, h, i, j, fr, rfl, hi, hj, hij, hg, hh, S, k⟩ := h
    have kl := T.kl_Counts
    have ki := T.ki_Counts
    have kk := T.kit_Counts_Counts
    refine ⟨_, (pss_cons (ps_if (pt_not (pt_val (pe_callB (call_gIsi (K := K) rfl) (by rfl) T.n_isinstance (by decide +kernel) (pa_cons (pv 1) (pa_cons (pe_glob (v := .ref A.c_Counts) rfl T.vm_Counts rfl) pa_nil))))) (pss_one ps_never) pss_nil)
      (pss_one (ps_ret (pe_call (ok_counts_of T) (hr.mono (by decide)) rfl T.m_counts_of T.k_counts_of T.b_counts_of .nil pass0 (pa_cons (pe_lc (own := [("word", 2), ("mine", 3), ("theirs", 4)]) (g := (gTup K 3 (gCons (gName 2) (gCons (gName 3) (gCons (gName 4) gNil))))) rfl sc_Counts___add__.nd (pi_gList (K := K) rfl (pe_call (ok_beside T) (hr.mono (by decide)) rfl T.m_beside T.k_beside T.b_beside .nil pass0 (pa_cons (pv 0) (pa_cons (pv 1) pa_nil)))) (blkOk_by (N := ["self", "other", "word", "mine", "theirs"]) (sc := defScope s_Counts___add__) (by decide +kernel)) (fun _ _ _ _ _ => (pg_gTup (K := K) rfl rfl (pgs_cons (pg_name (i := 2) sc_Counts___add__.nd rfl (.inl rfl)) (pgs_cons (pg_name (i := 3) sc_Counts___add__.nd rfl (.inl rfl)) (pgs_cons (pg_name (i := 4) sc_Counts___add__.nd rfl (.inl rfl)) pgs_nil))))) (fun _ _ _ _ _ => pts_nil) (fun _ _ _ _ _ => (pe_tup (pa_cons (pv 2) (pa_cons (pe_op op_gAdd (pv 3) (pv 4)) pa_nil))))) pa_nil))))), ?_⟩
    walk_at "v"
    refine c_beside S hi hj hij hg hh fun a ws H2 hb hz S2 => ?_
    obtain ⟨vs, hvs, S3⟩ := ld_open S2
    have hvl := tri_len hvs
    clear S S2
    walk_at "v"
    refine lcL S3 has0 (fun B i H => ∃ us, us.length ≤ i ∧ Sep (At B (.lst us) :: DVs us (pds (fps (fun w => g w + h w) (ws.take i))) :: At a (.lst vs) :: DVs vs (tri g h ws) :: fr) H) (fun B H' S' => ⟨[], Nat.le_refl _, (S'.addDs .nil).fr1⟩) (fun B i H ⟨us, _, S'⟩ => S'.at (i := 2) rfl) ?_ ?_
    · rintro B i' x H6 hx ⟨us, hu, S4⟩
      obtain ⟨q', w, ew, rfl, hq⟩ := tri_get (S4.dvs (i := 3) rfl) hx
      have S5 := S4.addT hq
      have hil := get_lt ew
      rw [take_snoc ew]
      clear S3 S4
      refine lc_turn ?_
      walk_at "v"
      rename_i q5 H7 S7 H8 S8
      have h1 := fps_snoc (f := fun w => g w + h w) (S8.dvs (i := 3) rfl) (S8.tp (i := 0) rfl)
      exact ⟨_, by rw [List.length_append]; exact Nat.succ_le_succ hu, ((S8.tail.tail.dr1).addDs h1).fr1⟩
    · rintro B H6 ⟨us, hu, S4⟩
      rw [hvl, List.take_length] at S4
      clear S3
      walk_at "v"
      have S5 := ld_close (S4.dvs (i := 1) rfl) (S4.dr1.dr1.dr1)
      refine c_co_of S5 (i := 0) rfl (by rw [keys_fps]; exact hb.1) (fps_wd hb.2.1) (by rw [List.length_map]; omega) fun r H7 S7 => ?_
      rw [num_fps hb.1 (fun w hw => by
        obtain ⟨ha, hb⟩ := hb.2.2 w hw
        show (g w + h w) = 0
        rw [ha, hb]; rfl)] at S7
      exact k r H7 S7.dr1
theorem c_add {K : PySem.W.Frag} {A : Ad} {l : List Asn} {H : Hp} {i j : Nat} {p q : Addr} {g h : Str → Int} {Q : VK} {E : XK} (S : Sep l H) (e : l[i]? = some (Co p A.c_Counts g)) (e2 : l[j]? = some (Co q A.c_Counts h)) (hd : p = q ∧ g = h ∨ i ≠ j) (hg : Sz g 200) (hh : Sz h 200)
    (k : ∀ (r : Addr) (H' : Hp), Sep (Co r A.c_Counts (fun w => g w + h w) :: l) H' → Q (.ref r) H') : sp_Counts___add__ K A [.ref p, .ref q] H Q E :=
  ⟨p, q, g, h, i, j, l, rfl, e, e2, hd, hg, hh, S, k⟩
local macro_rules | `(tactic| walk_at "v1") => `(tactic| ((with_reducible refine' c_add (by assumption) ?hi ?hj ?hd ?hg ?hh ?_); (case hi => walk_at "has"); (case hj => walk_at "has"); (case hd => (first | exact .inl ⟨rfl, rfl⟩ | exact .inr (by omega) | (refine Or.imp (fun z => z) (fun z => ?_) (by assumption); omega))); (case hg => assumption); (case hh => assumption); intro _ _ _))
/-! Counts___eq__ -/
def sp_Counts___eq__ (K : PySem.W.Frag) (A : Ad) : Sp := fun vs H Q _ => ∃ (p : Addr) (g : Str → Int) (x : V) (i : Nat) (fr : List Asn), vs = [.ref p, x] ∧ fr[i]? = some (Co p A.c_Counts g) ∧ Sep fr H ∧
  ((∃ (q : Addr) (h : Str → Int) (j : Nat), x = .ref q ∧ fr[j]? = some (Co q A.c_Counts h) ∧ (p = q ∧ g = h ∨ i ≠ j) ∧ ∀ (b : Bool) (H' : Hp), (b = true ↔ g = h) → Sep fr H' → Q (.bl b) H') ∨ (∃ t, TyX K H x t ∧ PySem.W.kitOne K t (.ref A.c_Counts) = some false ∧ Q (.bl false) H))
theorem ok_Counts___eq__ (T : Txt K mg A) : FnOk P w K mg base CX0 1 A.f_Counts___eq__ A.fd_Counts___eq__ ["self", "other"] (sp_Counts___eq__ K A) := by
  refine T.F_Counts___eq__.ok sc_Counts___eq__ (fun vs H Q E h => ?_) (fun cdv A' outer s0 H vs Q E hr h => ?_)
  · obtain ⟨p, g, x, i, fr, rfl, _⟩ := h
    rfl
  · obtain ⟨p, g, x, i, fr, rfl, hi, S, ⟨q, h, j, rfl, hj, hij, k⟩ | ⟨t, ht, hk, k⟩⟩ := h
    · have kl := T.kl_Counts
      have ki := T.ki_Counts
      have kk := T.kit_Counts_Counts
      rcases hij with ⟨rfl, rfl⟩ | hij
      · refine ⟨_, (pss_one (ps_ret (pe_and (pe_callB (call_gIsi (K := K) rfl) (by rfl) T.n_isinstance (by decide +kernel) (pa_cons (pv 1) (pa_cons (pe_glob (v := .ref A.c_Counts) rfl T.vm_Counts rfl) pa_nil))) (pe_one (pe_cmpR (op_eqMp hr.units0) (pe_gFld (K := K) rfl (pv 0) rfl) (pe_gFld (K := K) rfl (pv 1) rfl) (nomark _)))))), ?_⟩
        walk_at "v"
        obtain ⟨d, m, hG, hm, S1⟩ := S.co hi
        clear S
        walk_at "v"
        exact k _ _ (good_eq hG hG |>.trans (by simp)) (Sep.coBack hi hG hm S1)
      · refine ⟨_, (pss_one (ps_ret (pe_and (pe_callB (call_gIsi (K := K) rfl) (by rfl) T.n_isinstance (by decide +kernel) (pa_cons (pv 1) (pa_cons (pe_glob (v := .ref A.c_Counts) rfl T.vm_Counts rfl) pa_nil))) (pe_one (pe_cmpR (op_eqMp hr.units0) (pe_gFld (K := K) rfl (pv 0) rfl) (pe_gFld (K := K) rfl (pv 1) rfl) (nomark _)))))), ?_⟩
        walk_at "v"
        obtain ⟨d, m, hG, hm, S1⟩ := S.co hi
        obtain ⟨d2, m2, hG2, hm2, S2⟩ := Sep.co (i := (if j < i then j else j - 1) + 2) S1 (erase_get hij hj)
        replace S2 : Sep (Ob q A.c_Counts [("_numbers", .ref d2)] :: At d2 (.dK (mp m2)) :: Ob p A.c_Counts [("_numbers", .ref d)] :: At d (.dK (mp m)) :: (fr.eraseIdx i).eraseIdx (if j < i then j else j - 1)) H := S2
        clear S S1
        walk_at "v"
        refine k _ _ (by rw [good_eq hG hG2, hm, hm2]) (Sep.coBack (d := d) hi hG hm ?_)
        exact Sep.coBack (d := d2) (i := (if j < i then j else j - 1) + 2) (l := Ob p A.c_Counts [("_numbers", .ref d)] :: At d (.dK (mp m)) :: fr.eraseIdx i) (erase_get hij hj) hG2 hm2 S2
    · refine ⟨_, (pss_one (ps_ret (pe_and (pe_callB (call_gIsi (K := K) rfl) (by rfl) T.n_isinstance (by decide +kernel) (pa_cons (pv 1) (pa_cons (pe_glob (v := .ref A.c_Counts) rfl T.vm_Counts rfl) pa_nil))) (pe_one (pe_cmpR (op_eqMp hr.units0) (pe_gFld (K := K) rfl (pv 0) rfl) (pe_gFld (K := K) rfl (pv 1) rfl) (nomark _)))))), ?_⟩
      walk_at "v"
      refine i_one (.own A.c_Counts) ht hk ?_
      walk_at "v"
      exact k
theorem c_eq {K : PySem.W.Frag} {A : Ad} {l : List Asn} {H : Hp} {i j : Nat} {p q : Addr} {g h : Str → Int} {Q : VK} {E : XK} (S : Sep l H) (e : l[i]? = some (Co p A.c_Counts g)) (e2 : l[j]? = some (Co q A.c_Counts h)) (hd : p = q ∧ g = h ∨ i ≠ j)
    (k : ∀ (b : Bool) (H' : Hp), (b = true ↔ g = h) → Sep l H' → Q (.bl b) H') : sp_Counts___eq__ K A [.ref p, .ref q] H Q E :=
  ⟨p, g, _, i, l, rfl, e, S, .inl ⟨q, h, j, rfl, e2, hd, k⟩⟩
theorem c_eqN {K : PySem.W.Frag} {A : Ad} {l : List Asn} {H : Hp} {i : Nat} {p : Addr} {g : Str → Int} {x : V} {t : Value} {Q : VK} {E : XK} (S : Sep l H) (e : l[i]? = some (Co p A.c_Counts g)) (ht : TyX K H x t) (hk : PySem.W.kitOne K t (.ref A.c_Counts) = some false) (k : Q (.bl false) H) : sp_Counts___eq__ K A [.ref p, x] H Q E :=
  ⟨p, g, x, i, l, rfl, e, S, .inr ⟨t, ht, hk, k⟩⟩
theorem c_ne {K : PySem.W.Frag} {A : Ad} {l : List Asn} {H : Hp} {i j : Nat} {p q : Addr} {g h : Str → Int} {Q : VK} {E : XK} (S : Sep l H) (e : l[i]? = some (Co p A.c_Counts g)) (e2 : l[j]? = some (Co q A.c_Counts h)) (hd : p = q ∧ g = h ∨ i ≠ j)
    (k : ∀ (b : Bool) (H' : Hp), (b = true ↔ g = h) → Sep l H' → Q (.bl (!b)) H') : rNeOwn A.c_Counts (sp_Counts___eq__ K A) E (.ref p) (.ref q) H Q := by
  obtain ⟨dx, fs, h1⟩ := ins_co S e
  obtain ⟨dy, gs, h2⟩ := ins_co S e2
  exact ⟨p, dx, fs, q, dy, gs, rfl, rfl, h1, h2, c_eq S e e2 hd fun b H' hb S' => ⟨b, rfl, k b H' hb S'⟩⟩
theorem c_neF {K : PySem.W.Frag} {A : Ad} {l : List Asn} {H : Hp} {i j : Nat} {p q : Addr} {g h : Str → Int} {Q : VK} {E : XK} (S : Sep l H) (e : l[i]? = some (Co p A.c_Counts g)) (e2 : l[j]? = some (Co q A.c_Counts h)) (hd : p = q ∧ g = h ∨ i ≠ j) (hgh : g = h)
    (k : ∀ (H' : Hp), Sep l H' → Q (.bl false) H') : rNeOwn A.c_Counts (sp_Counts___eq__ K A) E (.ref p) (.ref q) H Q :=
  c_ne S e e2 hd fun b H' hb S' => by rw [hb.2 hgh]; exact k H' S'
/-! law -/
theorem psum_nd : ∀ {m : List (Str × Int)}, (keys m).Nodup → psum m = num m
  | [], _ => rfl
  | x :: m, h => funext fun w => by
    have h1 := (List.nodup_cons.1 (show (x.1 :: keys m).Nodup from h))
    have ih := congrFun (psum_nd h1.2) w
    show (if x.1 = w then x.2 else 0) + psum m w = if x.1 = w then x.2 else num m w
    rw [ih]
    by_cases e : x.1 = w
    · rw [if_pos e, if_pos e, num_none (fun z => h1.1 (e ▸ z))]; omega
    · rw [if_neg e, if_neg e]; omega
theorem bad_wd {m L : List (Str × Int)} {v : V} (ht : Told (num m) L) (hg : Gp m) (h : DivBad L v) : v = .non ∨ ∃ w, v = .str w ∧ Wd w := by
  rcases h with ⟨_, e⟩ | ⟨i, x, ex, _, _, e⟩
  · exact .inl e
  · exact .inr ⟨_, e, told_gp ht hg x (List.mem_of_getElem? ex)⟩
theorem told_zero : Told (fun _ => 0) [] := ⟨List.Pairwise.nil, fun w => ⟨fun z => (nomatch z), fun z => (z rfl).elim⟩, fun x z => nomatch z⟩
theorem c_fits {K : PySem.W.Frag} {l : List Asn} {H : Hp} {i j : Nat} {n : Int} {a d : Addr} {F : Str → Int} {z : Nat} {m : List (Str × Int)} {Q : VK} {E : XK} (S : Sep l H) (e : l[i]? = some (At d (.dK (mp m)))) (e2 : (l.eraseIdx i)[j]? = some (Md a F z)) (hz : z < 64) (hn : (keys m).Nodup) (hm : m.length < 64) (hg : Gp m) (hb : n.natAbs < 2 ^ 1000)
    (k : ∀ (b : Bool) (H' : Hp), (b = true ↔ ∀ x ∈ m, n * x.2 ≤ F x.1) → Sep l H' → Q (.bl b) H') : sp_law_fits K [.int n, .ref a, .ref d] H Q E :=
  ⟨n, a, d, F, z, m, j, l.eraseIdx i, rfl, e2, hz, hn, hm, hg, hb, S.pick e, fun b H' h S' => k b H' h (Sep.backS e S')⟩
theorem fits_ok {g : Str → Int} {m L : List (Str × Int)} {n : Int} (hn : (keys m).Nodup) (hz : ∀ x ∈ m, x.2 ≠ 0) (ht : Told (num m) L) (hd : DivOk L) (hq : QuotOf g (num m) n) : (∀ x ∈ m, n * x.2 ≤ g x.1) ∧ ¬ ∀ x ∈ m, (n + 1) * x.2 ≤ g x.1 := by
  constructor
  · intro x hx
    have e := num_at hn hx
    have h0 : num m x.1 ≠ 0 := by rw [e]; exact hz x hx
    have hp := div_pos ht hd h0
    have h1 := hq.2 x.1 h0
    rw [e] at hp h1
    exact Int.mul_le_of_le_ediv hp h1
  · intro h
    obtain ⟨⟨w, hw, rfl⟩, _⟩ := hq
    have hk : w ∈ keys m := Classical.byContradiction fun z => hw (num_none z)
    obtain ⟨x, hx, rfl⟩ := List.mem_map.1 hk
    have e := num_at hn hx
    have hp := div_pos ht hd hw
    have h1 := h x hx
    rw [e] at hp h1
    have h2 := Int.lt_ediv_add_one_mul_self (g x.1) hp
    omega
theorem quot_same {g h : Str → Int} {n m : Int} (a : QuotOf g h n) (b : QuotOf g h m) : n = m := by
  obtain ⟨⟨w, hw, e⟩, h1⟩ := a
  obtain ⟨⟨u, hu, e2⟩, h2⟩ := b
  have := h1 u hu
  have := h2 w hw
  omega
theorem quot_one {h : Str → Int} {n : Int} (hq : QuotOf h h n) : n = 1 := by
  obtain ⟨⟨w, hw, rfl⟩, _⟩ := hq
  exact Int.ediv_self hw
theorem ne_nil8 {l : List Asn} {H : Hp} {p p2 : Addr} {v : V} {i j : Nat} {K : PySem.W.Frag} {Q : VK} (S : Sep l H) (hi : l[i]? = some (At p (.lst [v]))) (hj : l[j]? = some (At p2 (.lst []))) (hv : v = .non ∨ ∃ w, v = .str w ∧ Wd w) (q : Q (.bl true) H) : gNe K (.ref p) (.ref p2) H Q := by
  rcases hv with rfl | ⟨w, rfl, hw⟩
  · refine .inr ⟨.list [.none], .list [], .lst (SqL.of (S.at hi)) (.cons .non .nil), .lst (SqL.of (S.at hj)) .nil, shaped_lst (fun d hd => ?_), shaped_lst (fun d hd => nomatch hd), ?_⟩
    · rw [List.mem_singleton.1 hd]
      exact ⟨by rw [PyData.canLay0], by rw [PyData.depth]⟩
    · rw [show PyData.eqv (.list [.none]) (.list []) = false by simp [PyData.eqv, PyData.eqvAll]]
      exact q
  · have h := ne_lss (K := K) (ws := [w]) (us := []) (Q := Q) S hi hj (fun u hu => List.mem_singleton.1 hu ▸ hw) (fun _ z => nomatch z)
    rw [decide_eq_false (List.cons_ne_nil _ _)] at h
    exact h q
def sp_law (K : PySem.W.Frag) : Sp := fun vs H Q _ => ∃ (a : Addr) (ns : List Int), vs = [.ref a] ∧ SqL K H a (ns.map V.int) ∧ ns.length ≤ 63 ∧ ∀ H', Q (.bl true) H'
theorem ok_law (T : Txt K mg A) : FnOk P w K mg base CX0 12 A.f_law A.fd_law ["script"] (sp_law K) := by
  refine T.F_law.ok sc_law (fun vs H Q E h => ?_) (fun cdv A' outer s0 H vs Q E hr h => ?_)
  · obtain ⟨a, ns, rfl, _⟩ := h
    rfl
  · obtain ⟨a, ns, rfl, hS, hz, k⟩ := h
    have kl := T.kl_Counts
    have ki := T.ki_Counts
    have kk := T.kit_Counts_Counts
    refine ⟨_, (pss_cons (ps_set (i := 1) sc_law.nd rfl (.inl rfl) (pe_call (ok_law_source T) (hr.mono (by decide)) rfl T.m_law_source T.k_law_source T.b_law_source .nil pass0 (pa_cons (pv 0) pa_nil)))
      (pss_cons (ps_set (i := 2) sc_law.nd rfl (.inl rfl) (pe_call (ok_law_pairs T) (hr.mono (by decide)) rfl T.m_law_pairs T.k_law_pairs T.b_law_pairs .nil pass0 (pa_cons (pv 1) (pa_cons pe_int pa_nil))))
      (pss_cons (ps_set (i := 3) sc_law.nd rfl (.inl rfl) (pe_call (ok_law_model T) (hr.mono (by decide)) rfl T.m_law_model T.k_law_model T.b_law_model .nil pass0 (pa_cons (pv 2) pa_nil)))
      (pss_cons (ps_set (i := 4) sc_law.nd rfl (.inl rfl) (pe_call (ok_law_divisor T) (hr.mono (by decide)) rfl T.m_law_divisor T.k_law_divisor T.b_law_divisor .nil pass0 (pa_cons (pv 1) (pa_cons (pv 2) pa_nil))))
      (pss_cons (ps_set (i := 5) sc_law.nd rfl (.inl rfl) (ClX.pe_cmeth (pe_glob (v := .ref A.c_Counts) rfl T.vm_Counts rfl) T.r_Counts T.cm_Counts_of (raw0 (K := K) (ok_Counts_of (K := K) T) T.b_Counts_of) (hr.mono (by decide)) pass0 (pa_cons (pv 2) pa_nil)))
      (pss_cons (ps_set (i := 6) sc_law.nd rfl (.inl rfl) (ClX.pe_cmeth (pe_glob (v := .ref A.c_Counts) rfl T.vm_Counts rfl) T.r_Counts T.cm_Counts_of (raw0 (K := K) (ok_Counts_of (K := K) T) T.b_Counts_of) (hr.mono (by decide)) pass0 (pa_cons (LiI.pe_listItems rfl (pv 4) (by rfl) T.n_list (by decide +kernel)) pa_nil)))
      (pss_cons (ps_set (i := 7) sc_law.nd rfl (.inl rfl) (pe_call (ok_law_due T) (hr.mono (by decide)) rfl T.m_law_due T.k_law_due T.b_law_due .nil pass0 (pa_cons (pv 4) pa_nil)))
      (pss_cut (ps_if (pt_cmpR (op_gNe (K := K) rfl hr.units) (pv 7) (pe_lst pa_nil) (nomark _)) (pss_cut (ps_if (pt_not (pt_val (pe_call (ok_law_refused T) (hr.mono (by decide)) rfl T.m_law_refused T.k_law_refused T.b_law_refused .nil pass0 (pa_cons (pv 5) (pa_cons (pv 6) (pa_cons (pe_ix (ix_g (K := K) rfl) (pv 7) pe_int (fun _ _ => rfl)) pa_nil)))))) (pss_one (ps_ret pe_bl)) pss_nil)
      (pss_one (ps_ret (pe_and (pe_call (ok_law_equal T) (hr.mono (by decide)) rfl T.m_law_equal T.k_law_equal T.b_law_equal .nil pass0 (pa_cons (pv 5) (pa_cons (pv 3) pa_nil))) (pe_one (pe_call (ok_law_equal T) (hr.mono (by decide)) rfl T.m_law_equal T.k_law_equal T.b_law_equal .nil pass0 (pa_cons (pv 6) (pa_cons (pv 4) pa_nil)))))))) pss_nil)
      (pss_cons (ps_set (i := 8) sc_law.nd rfl (.inl rfl) (pe_op (op_ownBin (op := .FloorDiv) T.mt_Counts___floordiv__ T.sf_Counts (raw0 (K := K) (okX_Counts___floordiv__ (K := K) T) T.b_Counts___floordiv__) (hr.mono (by decide)) passL) (pv 5) (pv 6)))
      (pss_cons (ps_if (PW.pt (pw_or (pt_not (pt_val (pe_call (ok_law_is_integer T) (hr.mono (by decide)) rfl T.m_law_is_integer T.k_law_is_integer T.b_law_is_integer .nil pass0 (pa_cons (pv 8) pa_nil)))) (pw_or1 (pt_not (pt_val (pe_call (ok_law_fits T) (hr.mono (by decide)) rfl T.m_law_fits T.k_law_fits T.b_law_fits .nil pass0 (pa_cons (pv 8) (pa_cons (pv 3) (pa_cons (pv 4) pa_nil))))))))) (pss_one (ps_ret pe_bl)) pss_nil)
      (pss_cons (ps_if (pt_val (pe_call (ok_law_fits T) (hr.mono (by decide)) rfl T.m_law_fits T.k_law_fits T.b_law_fits .nil pass0 (pa_cons (pe_op op_gAdd (pv 8) pe_int) (pa_cons (pv 3) (pa_cons (pv 4) pa_nil))))) (pss_one (ps_ret pe_bl)) pss_nil)
      (pss_cons (ps_set (i := 9) sc_law.nd rfl (.inl rfl) pe_dnewK)
      (pss_cut (ps_for PassesOwn.never rfl (pi_gList (K := K) rfl (pe_op op_gAdd (pe_callTy (call_gListD rfl) (by rfl) T.n_list (by decide +kernel) (pa_cons (pv 3) pa_nil)) (pe_callTy (call_gListD rfl) (by rfl) T.n_list (by decide +kernel) (pa_cons (pv 4) pa_nil)))) (pg_name (i := 10) sc_law.nd rfl (.inl rfl)) (pss_one (ps_dput (hu_of hr) (pv 9) (pv 10) (pe_op op_gSub (pe_dget2 (hu_of hr) (pv 3) (pv 10) pe_int ⟨by rfl, by rfl, by rfl, by rfl⟩) (pe_op op_gMul (pv 8) (pe_dget2 (hu_of hr) (pv 4) (pv 10) pe_int ⟨by rfl, by rfl, by rfl, by rfl⟩))) rfl)))
      (pss_cut (ps_if (PW.pt (pw_or (pt_not (pt_val (pe_call (ok_law_equal T) (hr.mono (by decide)) rfl T.m_law_equal T.k_law_equal T.b_law_equal .nil pass0 (pa_cons (pe_op (op_ownBin (op := .Mod) T.mt_Counts___mod__ T.sf_Counts (raw0 (K := K) (okX_Counts___mod__ (K := K) T) T.b_Counts___mod__) (hr.mono (by decide)) passL) (pv 5) (pv 6)) (pa_cons (pv 9) pa_nil))))) (pw_or1 (pt_cmpR (op_ownNe T.ne_Counts T.mo_Counts T.mt_Counts___eq__ T.nf_Counts (raw0 (K := K) (ok_Counts___eq__ (K := K) T) T.b_Counts___eq__) (hr.mono (by decide)) hr.units pass0) (pe_op (op_ownBin (op := .Add) T.mt_Counts___add__ T.sf_Counts (raw0 (K := K) (ok_Counts___add__ (K := K) T) T.b_Counts___add__) (hr.mono (by decide)) pass0) (pe_op (op_mulR T.mi_Counts T.mt_Counts___mul__ T.mt_Counts___rmul__ T.sf_Counts (raw0 (K := K) (ok_Counts___rmul__ (K := K) T) T.b_Counts___rmul__) (hr.mono (by decide)) pass0) (pv 8) (pv 6)) (pe_op (op_ownBin (op := .Mod) T.mt_Counts___mod__ T.sf_Counts (raw0 (K := K) (okX_Counts___mod__ (K := K) T) T.b_Counts___mod__) (hr.mono (by decide)) passL) (pv 5) (pv 6))) (pv 5) (nomark _))))) (pss_one (ps_ret pe_bl)) pss_nil)
      (pss_cut (ps_if (PW.pt (pw_or (pt_not (pt_val (pe_call (ok_law_refused T) (hr.mono (by decide)) rfl T.m_law_refused T.k_law_refused T.b_law_refused .nil pass0 (pa_cons (pv 5) (pa_cons (pe_makeR0 T.mk_Counts (okR_Counts___init__ (K := K) T) (hr.mono (by decide)) rfl T.vm_Counts pass0) (pa_cons pe_non pa_nil)))))) (pw_or1 (pt_not (pt_val (pe_call (ok_law_refused T) (hr.mono (by decide)) rfl T.m_law_refused T.k_law_refused T.b_law_refused .nil pass0 (pa_cons (pv 6) (pa_cons (pe_methR0 (pv 5) T.kl_Counts.c T.mt_Counts_only (okR_Counts_only (K := K) T) (hr.mono (by decide)) pass0) (pa_cons pe_non pa_nil))))))))) (pss_one (ps_ret pe_bl)) pss_nil)
      (pss_one (ps_ret (pe_and (pe_call (ok_law_equal T) (hr.mono (by decide)) rfl T.m_law_equal T.k_law_equal T.b_law_equal .nil pass0 (pa_cons (pv 5) (pa_cons (pv 3) pa_nil))) (pe_and (pe_call (ok_law_equal T) (hr.mono (by decide)) rfl T.m_law_equal T.k_law_equal T.b_law_equal .nil pass0 (pa_cons (pv 6) (pa_cons (pv 4) pa_nil))) (pe_and (pe_cmpR (op_gEq (K := K) rfl hr.units) (pe_op (op_ownBin (op := .FloorDiv) T.mt_Counts___floordiv__ T.sf_Counts (raw0 (K := K) (okX_Counts___floordiv__ (K := K) T) T.b_Counts___floordiv__) (hr.mono (by decide)) passL) (pv 6) (pv 6)) pe_int (nomark _)) (pe_one (pe_notR (pe_op (op_ownBin (op := .Mod) T.mt_Counts___mod__ T.sf_Counts (raw0 (K := K) (okX_Counts___mod__ (K := K) T) T.b_Counts___mod__) (hr.mono (by decide)) passL) (pv 6) (pv 6)) (tru_own T.mt_Counts___bool__ (raw0 (K := K) (ok_Counts___bool__ (K := K) T) T.b_Counts___bool__) (hr.mono (by decide)) pass0))))))))))))))))))))))), ?_⟩
    walk_at "v"
    refine ⟨a, ns, [], rfl, hS, hz, Sep.nil, fun s H1 S1 => ?_⟩
    walk_at "v"
    refine c_pairs S1 (i := 0) rfl (by decide) (by decide) fun aP ps H2 hgp hlp S2 => ?_
    have hlp' : ps.length ≤ 8 := by omega
    clear S1
    walk_at "v"
    rename_i d1 m1 H3 hn1 hl1 hk1 hm1 S3
    refine c_divisor S3 (i := 1) (j := 1) rfl rfl hgp (by omega) fun d2 m2 H4 hn2 hl2 hg2 hz2 S4 => ?_
    have S5 := md_close (d := d1) (n := 8) hn1 (by omega) (funext hm1) (S4.reord [1])
    replace S5 : Sep [Md d1 (psum ps) 8, At d2 (.dK (mp m2)), LD aP (pds ps), Src s] H4 := S5
    clear S2 S3 S4
    have bG : ∀ w, (psum ps w).natAbs < 2 ^ 900 := psum_big hgp (by omega)
    have bH : ∀ w, (num m2 w).natAbs < 2 ^ 900 := psum_nd hn2 ▸ psum_big hg2 (by omega)
    walk_at "v"
    rename_i p H5 S6 aL H6 S7 q H7 S8
    rw [psum_nd hn2] at S8
    have S9 : Sep [Co q A.c_Counts (num m2), Co p A.c_Counts (psum ps), Md d1 (psum ps) 8, At d2 (.dK (mp m2))] H7 := S8.drops [1, 5, 4]
    clear S5 S6 S7 S8
    have sG : Sz (psum ps) 200 := (Md.sz S9 (i := 2) rfl).le (by decide)
    have sH : Sz (num m2) 200 := Sz.num.le (by omega)
    have cG : ∀ w, (psum ps w).natAbs < 2 ^ 1000 := fun w => Nat.lt_trans (bG w) (by decide +kernel)
    have cH : ∀ w, (num m2 w).natAbs < 2 ^ 1000 := fun w => Nat.lt_trans (bH w) (by decide +kernel)
    refine c_due8 S9 (i := 3) rfl hn2 (by omega) hg2 fun L aD xs H8 ht hxs S10 => ?_
    clear S9
    rcases hxs with ⟨hd, rfl⟩ | ⟨v, hd, rfl, _⟩
    rotate_left
    · have hv := bad_wd ht hg2 hd
      walk_at "v"
      refine r_cut (fun _ _ => False) ?_ (fun _ _ z => z.elim)
      walk_at "v"
      rename_i e0 H9 S11
      refine ne_nil8 S11 (hasS has0) has0 hv ?_
      walk_at "v"
      refine r_cut (fun σ H => σ = [some (.ref a), some (.ref s), some (.ref aP), some (.ref d1), some (.ref d2), some (.ref p), some (.ref q), some (.ref aD), none, none, none] ∧ Sep [Co q A.c_Counts (num m2), Co p A.c_Counts (psum ps), Md d1 (psum ps) 8, At d2 (.dK (mp m2))] H) ?_ ?_
      · walk_at "v"
        refine c_refused S11 (i := 3) (j := 2) rfl rfl (.inr (by decide)) ⟨sG, sH⟩ ⟨cG, cH⟩ ⟨ht, hd⟩ hv fun H10 S12 => ?_
        walk_at "v"
        exact ⟨rfl, S12.drops [0, 0]⟩
      clear S10 S11
      rintro σ H9 ⟨rfl, S10⟩
      walk_at "v"
      exact k _
    walk_at "v"
    refine r_cut (fun σ H => σ = [some (.ref a), some (.ref s), some (.ref aP), some (.ref d1), some (.ref d2), some (.ref p), some (.ref q), some (.ref aD), none, none, none] ∧ Sep [Co q A.c_Counts (num m2), Co p A.c_Counts (psum ps), Md d1 (psum ps) 8, At d2 (.dK (mp m2))] H) ?_ ?_
    · walk_at "v"
      rename_i e0 H9 S11
      refine ne_bls (bs := []) (cs := []) S11 (hasS has0) has0 ?_
      rw [decide_eq_true (rfl : ([] : List Bool) = [])]
      walk_at "v"
      exact ⟨rfl, S11.drops [0, 0]⟩
    clear S10
    rintro σ H9 ⟨rfl, S10⟩
    walk_at "v"
    refine x_div S10 (i := 1) (j := 0) rfl rfl (.inr (by decide)) cH (fun L2 n H10 ht2 hd2 hq S11 => ?_) fun L2 v ht2 hb2 _ _ _ => (by rw [← told_same ht ht2] at hb2; exact ok_bad hd hb2)
    clear S10
    have hn9 := quot_big hq bG
    have hnb : n.natAbs < 2 ^ 1000 := Nat.lt_trans hn9 (by decide +kernel)
    have hnc : (n + 1).natAbs < 2 ^ 1000 := Nat.lt_of_le_of_lt (m := 2 ^ 900) (Nat.le_trans (Int.natAbs_add_le n 1) hn9) (by decide +kernel)
    obtain ⟨f1, f2⟩ := fits_ok hn2 hz2 ht hd hq
    walk_at "v"
    refine c_fits S11 (i := 3) (j := 2) rfl rfl (by decide) hn2 (by omega) hg2 hnb fun b H11 hb S12 => ?_
    obtain rfl : b = true := hb.2 f1
    clear S11 hb
    walk_at "v"
    refine c_fits S12 (i := 3) (j := 2) rfl rfl (by decide) hn2 (by omega) hg2 hnc fun b H12 hb S13 => ?_
    obtain rfl : b = false := by
      cases b with
      | true => exact absurd (hb.1 rfl) f2
      | false => rfl
    clear S12 hb
    walk_at "v"
    rename_i D H13 S14
    clear S13
    refine r_cut (fun σ H => ∃ (m : List (Str × Int)) (x : Option V), σ = [some (.ref a), some (.ref s), some (.ref aP), some (.ref d1), some (.ref d2), some (.ref p), some (.ref q), some (.ref aD), some (.int n), some (.ref D), x] ∧ (keys m).Nodup ∧ m.length ≤ 12 ∧ (num m = fun w => psum ps w - n * num m2 w) ∧ Sep [At D (.dK (mp m)), Co q A.c_Counts (num m2), Co p A.c_Counts (psum ps), Md d1 (psum ps) 8, At d2 (.dK (mp m2))] H) ?_ ?_
    · walk_at "v"
      rename_i L1 ks1 H14 hk1 hl3 S15 L2 H15 S16
      refine o_cat S16 (e := 1) (e' := 0) rfl rfl (by rw [List.length_map, List.length_map]; unfold keys; rw [List.length_map]; exact Nat.le_trans (show _ ≤ 1000 by omega) (by decide)) fun L0 H16 S17 => ?_
      rw [← List.map_append] at S17
      have hkl : (keys m2).length = m2.length := by unfold keys; rw [List.length_map]
      generalize hws : ks1 ++ keys m2 = ws at S17
      have hwl : ws.length ≤ 12 := by rw [← hws, List.length_append]; omega
      have S18 : Sep [At D (.dK (mp [])), At L0 (.lst (ws.map V.str)), Co q A.c_Counts (num m2), Co p A.c_Counts (psum ps), Md d1 (psum ps) 8, At d2 (.dK (mp m2))] H16 := (S17.dr1.dr1).reord [1]
      clear S14 S15 S16 S17
      walk_at "v"
      refine forL S18 (e := 1) rfl (fun t σ H => ∃ (m : List (Str × Int)) (x : Option V), σ = [some (.ref a), some (.ref s), some (.ref aP), some (.ref d1), some (.ref d2), some (.ref p), some (.ref q), some (.ref aD), some (.int n), some (.ref D), x] ∧ Mw (fun w => psum ps w - n * num m2 w) (ws.take t) m ∧ Sep [At D (.dK (mp m)), At L0 (.lst (ws.map V.str)), Co q A.c_Counts (num m2), Co p A.c_Counts (psum ps), Md d1 (psum ps) 8, At d2 (.dK (mp m2))] H) ⟨[], _, rfl, Mw.nil, S18⟩ (fun t σ H ⟨m, c, _, _, S'⟩ => S'.at (i := 1) rfl) ?_ ?_
      · rintro t x' σ H5 hx' ⟨m, c, rfl, hm, S6⟩
        rw [List.getElem?_map] at hx'
        cases ey : ws[t]? with
        | none => rw [ey] at hx'; cases hx'
        | some w =>
          rw [ey] at hx'
          cases hx'
          have ht' := get_lt ey
          have hml := hm.2.1
          rw [List.length_take] at hml
          have hn := hm.1
          clear S18
          walk_at "v"
          refine o_mulW (wide_mul hnb (cH w) (by decide) (by decide) (by decide)) ?_
          walk_at "v"
          rename_i H7 S7
          refine ⟨_, _, rfl, ?_, S7⟩
          rw [take_snoc ey]
          exact hm.put w
      · rintro σ H5 ⟨m, c, rfl, hm, S6⟩
        rw [show (ws.map V.str).length = ws.length by rw [List.length_map], List.take_length] at hm
        clear S18
        walk_at "v"
        refine ⟨m, _, rfl, hm.1, Nat.le_trans hm.2.1 hwl, hm.all fun w hw => ?_, S6.drops [1]⟩
        show psum ps w - n * num m2 w = 0
        rw [hk1 w fun z => hw (hws ▸ List.mem_append_left _ z), num_none fun z => hw (hws ▸ List.mem_append_right _ z)]
        simp
    clear S14
    rintro σ H14 ⟨m, x, rfl, hnm, hlm, hm, S15⟩
    have S16 := md_close (d := D) (n := 12) hnm hlm hm S15
    clear S15
    have hE : (fun w => psum ps w - n * num m2 w) = fun w => psum ps w - num m2 w * n := funext fun w => by rw [Int.mul_comm]
    walk_at "v"
    refine r_cut (fun σ H => σ = [some (.ref a), some (.ref s), some (.ref aP), some (.ref d1), some (.ref d2), some (.ref p), some (.ref q), some (.ref aD), some (.int n), some (.ref D), x] ∧ Sep [Co q A.c_Counts (num m2), Co p A.c_Counts (psum ps), Md d1 (psum ps) 8, At d2 (.dK (mp m2))] H) ?_ ?_
    · walk_at "v"
      refine x_mod S16 (i := 2) (j := 1) rfl rfl (.inr (by decide)) ⟨sG, sH⟩ ⟨cG, cH⟩ (fun L2 n2 r H15 _ _ hq2 S17 => ?_) fun L2 v ht2 hb2 _ _ _ => (by rw [← told_same ht ht2] at hb2; exact ok_bad hd hb2)
      obtain rfl := quot_same hq hq2
      clear S16
      walk_at "v"
      rename_i H16 S18
      clear S17
      walk_at "v"
      refine c_rmul S18 (i := 2) rfl (sH.le (by decide)) cH hnb (by decide) fun r2 H17 S19 => ?_
      clear S18
      walk_at "v"
      refine x_mod S19 (i := 4) (j := 3) rfl rfl (.inr (by decide)) ⟨sG, sH⟩ ⟨cG, cH⟩ (fun L2 n2 r3 H18 _ _ hq2 S20 => ?_) fun L2 v ht2 hb2 _ _ _ => (by rw [← told_same ht ht2] at hb2; exact ok_bad hd hb2)
      obtain rfl := quot_same hq hq2
      clear S19
      have sM : Sz (fun w => psum ps w - num m2 w * n) 200 := ((Md.sz S20 (i := 3) rfl).le (by decide) : Sz (fun w => psum ps w - n * num m2 w) 200) |> fun z => hE ▸ z
      walk_at "v"
      refine c_add S20 (i := 1) (j := 0) rfl rfl (.inr (by decide)) (sz_times sH) sM fun r4 H19 S21 => ?_
      clear S20
      walk_at "v"
      refine c_ne S21 (i := 0) (j := 6) rfl rfl (.inr (by decide)) fun b H20 hb S22 => ?_
      obtain rfl : b = true := hb.2 (funext fun w => by show num m2 w * n + (psum ps w - num m2 w * n) = psum ps w; omega)
      clear S21
      walk_at "v"
      exact ⟨rfl, S22.drops [0, 0, 0, 0, 0]⟩
    clear S16
    rintro σ H15 ⟨rfl, S16⟩
    refine r_cut (fun σ H => σ = [some (.ref a), some (.ref s), some (.ref aP), some (.ref d1), some (.ref d2), some (.ref p), some (.ref q), some (.ref aD), some (.int n), some (.ref D), x] ∧ Sep [Co q A.c_Counts (num m2), Co p A.c_Counts (psum ps), Md d1 (psum ps) 8, At d2 (.dK (mp m2))] H) ?_ ?_
    · walk_at "v"
      have z0 : Sz (fun _ => 0) 200 := Sz.zero.le (by decide)
      have b0 : ∀ w : Str, ((fun _ => 0 : Str → Int) w).natAbs < 2 ^ 1000 := fun w => Nat.pow_pos (by decide)
      refine c_Counts0 S16 kl fun e0 H16 S17 => ?_
      clear S16
      walk_at "v"
      refine c_refused S17 (i := 2) (j := 0) rfl rfl (.inr (by decide)) ⟨sG, z0⟩ ⟨cG, b0⟩ ⟨told_zero, .inl ⟨rfl, rfl⟩⟩ (.inl rfl) fun H17 S18 => ?_
      clear S17
      walk_at "v"
      refine c_only (ws := []) S18 (i := 2) rfl (by decide) fun r H18 S19 => ?_
      rw [show (fun w => if w ∈ ([] : List Str) then psum ps w else 0) = fun _ => (0 : Int) from funext fun w => if_neg (fun z => nomatch z)] at S19
      clear S18
      walk_at "v"
      refine c_refused S19 (i := 2) (j := 0) rfl rfl (.inr (by decide)) ⟨sH, z0⟩ ⟨cH, b0⟩ ⟨told_zero, .inl ⟨rfl, rfl⟩⟩ (.inl rfl) fun H19 S20 => ?_
      clear S19
      walk_at "v"
      exact ⟨rfl, S20.drops [0, 0]⟩
    clear S16
    rintro σ H16 ⟨rfl, S17⟩
    walk_at "v"
    rename_i H17 S18 H18 S19
    clear S17 S18
    refine x_div S19 (i := 0) (j := 0) rfl rfl (.inl ⟨rfl, rfl⟩) cH (fun L2 n2 H19 _ _ hq2 S20 => ?_) fun L2 v ht2 hb2 _ _ _ => (by rw [← told_same ht ht2] at hb2; exact ok_bad hd hb2)
    obtain rfl := quot_one hq2
    clear S19
    walk_at "v"
    refine x_mod S20 (i := 0) (j := 0) rfl rfl (.inl ⟨rfl, rfl⟩) ⟨sH, sH⟩ ⟨cH, cH⟩ (fun L2 n2 r H20 _ _ hq2 S21 => ?_) fun L2 v ht2 hb2 _ _ _ => (by rw [← told_same ht ht2] at hb2; exact ok_bad hd hb2)
    obtain rfl := quot_one hq2
    rw [show (fun w => num m2 w - num m2 w * 1) = fun _ => (0 : Int) from funext fun w => by omega] at S21
    clear S20
    walk_at "v"
    refine ⟨r, fun _ => 0, 0, _, rfl, rfl, S21, fun b H21 hb S22 => ⟨b, rfl, ?_⟩⟩
    obtain rfl := hb [] told_zero
    walk_at "v"
    exact k _
end
theorem all_mk {l : PySem.W.OpenLaw} {w : World} {K : PySem.W.Frag} {h : Heap} {mg : Str → Option Value} {fa : Addr} (X : K.In h) (G : h.Ns mainGlobals mg) (hfa : mg "law" = some (.ref fa))
  {f_law_source : Addr} {oc_law_source kV_law_source dc_law_source pm_law_source cd_law_source ct_law_source : Value} {od_law_source an_law_source : Option Addr} {sl_law_source : Array (Option Value)}
  {f_law_mixed : Addr} {oc_law_mixed kV_law_mixed dc_law_mixed pm_law_mixed cd_law_mixed ct_law_mixed : Value} {od_law_mixed an_law_mixed : Option Addr} {sl_law_mixed : Array (Option Value)}
  {f_law_draw : Addr} {oc_law_draw kV_law_draw dc_law_draw pm_law_draw cd_law_draw ct_law_draw : Value} {od_law_draw an_law_draw : Option Addr} {sl_law_draw : Array (Option Value)}
  {f_law_word : Addr} {oc_law_word kV_law_word dc_law_word pm_law_word cd_law_word ct_law_word : Value} {od_law_word an_law_word : Option Addr} {sl_law_word : Array (Option Value)}
  {f_law_number : Addr} {oc_law_number kV_law_number dc_law_number pm_law_number cd_law_number ct_law_number : Value} {od_law_number an_law_number : Option Addr} {sl_law_number : Array (Option Value)}
  {f_law_pairs : Addr} {oc_law_pairs kV_law_pairs dc_law_pairs pm_law_pairs cd_law_pairs ct_law_pairs : Value} {od_law_pairs an_law_pairs : Option Addr} {sl_law_pairs : Array (Option Value)}
  {f_law_model : Addr} {oc_law_model kV_law_model dc_law_model pm_law_model cd_law_model ct_law_model : Value} {od_law_model an_law_model : Option Addr} {sl_law_model : Array (Option Value)}
  {f_law_divisor : Addr} {oc_law_divisor kV_law_divisor dc_law_divisor pm_law_divisor cd_law_divisor ct_law_divisor : Value} {od_law_divisor an_law_divisor : Option Addr} {sl_law_divisor : Array (Option Value)}
  {f_is_word : Addr} {oc_is_word kV_is_word dc_is_word pm_is_word cd_is_word ct_is_word : Value} {od_is_word an_is_word : Option Addr} {sl_is_word : Array (Option Value)}
  {f_BadWord___init__ : Addr} {oc_BadWord___init__ kV_BadWord___init__ dc_BadWord___init__ pm_BadWord___init__ cd_BadWord___init__ ct_BadWord___init__ : Value} {od_BadWord___init__ an_BadWord___init__ : Option Addr} {sl_BadWord___init__ : Array (Option Value)}
  {f_check_word : Addr} {oc_check_word kV_check_word dc_check_word pm_check_word cd_check_word ct_check_word : Value} {od_check_word an_check_word : Option Addr} {sl_check_word : Array (Option Value)}
  {f_is_number : Addr} {oc_is_number kV_is_number dc_is_number pm_is_number cd_is_number ct_is_number : Value} {od_is_number an_is_number : Option Addr} {sl_is_number : Array (Option Value)}
  {f_is_short : Addr} {oc_is_short kV_is_short dc_is_short pm_is_short cd_is_short ct_is_short : Value} {od_is_short an_is_short : Option Addr} {sl_is_short : Array (Option Value)}
  {f_BadNumber___init__ : Addr} {oc_BadNumber___init__ kV_BadNumber___init__ dc_BadNumber___init__ pm_BadNumber___init__ cd_BadNumber___init__ ct_BadNumber___init__ : Value} {od_BadNumber___init__ an_BadNumber___init__ : Option Addr} {sl_BadNumber___init__ : Array (Option Value)}
  {f_check_number : Addr} {oc_check_number kV_check_number dc_check_number pm_check_number cd_check_number ct_check_number : Value} {od_check_number an_check_number : Option Addr} {sl_check_number : Array (Option Value)}
  {f_Counts___init__ : Addr} {oc_Counts___init__ kV_Counts___init__ dc_Counts___init__ pm_Counts___init__ cd_Counts___init__ ct_Counts___init__ : Value} {od_Counts___init__ an_Counts___init__ : Option Addr} {sl_Counts___init__ : Array (Option Value)}
  {f_counts_of : Addr} {oc_counts_of kV_counts_of dc_counts_of pm_counts_of cd_counts_of ct_counts_of : Value} {od_counts_of an_counts_of : Option Addr} {sl_counts_of : Array (Option Value)}
  {f_is_pair : Addr} {oc_is_pair kV_is_pair dc_is_pair pm_is_pair cd_is_pair ct_is_pair : Value} {od_is_pair an_is_pair : Option Addr} {sl_is_pair : Array (Option Value)}
  {f_Counts_of : Addr} {oc_Counts_of kV_Counts_of dc_Counts_of pm_Counts_of cd_Counts_of ct_Counts_of : Value} {od_Counts_of an_Counts_of : Option Addr} {sl_Counts_of : Array (Option Value)}
  {f_law_told : Addr} {oc_law_told kV_law_told dc_law_told pm_law_told cd_law_told ct_law_told : Value} {od_law_told an_law_told : Option Addr} {sl_law_told : Array (Option Value)}
  {f_Counts_words : Addr} {oc_Counts_words kV_Counts_words dc_Counts_words pm_Counts_words cd_Counts_words ct_Counts_words : Value} {od_Counts_words an_Counts_words : Option Addr} {sl_Counts_words : Array (Option Value)}
  {f_Counts_pairs : Addr} {oc_Counts_pairs kV_Counts_pairs dc_Counts_pairs pm_Counts_pairs cd_Counts_pairs ct_Counts_pairs : Value} {od_Counts_pairs an_Counts_pairs : Option Addr} {sl_Counts_pairs : Array (Option Value)}
  {f_NoDivisor___init__ : Addr} {oc_NoDivisor___init__ kV_NoDivisor___init__ dc_NoDivisor___init__ pm_NoDivisor___init__ cd_NoDivisor___init__ ct_NoDivisor___init__ : Value} {od_NoDivisor___init__ an_NoDivisor___init__ : Option Addr} {sl_NoDivisor___init__ : Array (Option Value)}
  {f_Counts___bool__ : Addr} {oc_Counts___bool__ kV_Counts___bool__ dc_Counts___bool__ pm_Counts___bool__ cd_Counts___bool__ ct_Counts___bool__ : Value} {od_Counts___bool__ an_Counts___bool__ : Option Addr} {sl_Counts___bool__ : Array (Option Value)}
  {f_check_divisor : Addr} {oc_check_divisor kV_check_divisor dc_check_divisor pm_check_divisor cd_check_divisor ct_check_divisor : Value} {od_check_divisor an_check_divisor : Option Addr} {sl_check_divisor : Array (Option Value)}
  {f_law_due : Addr} {oc_law_due kV_law_due dc_law_due pm_law_due cd_law_due ct_law_due : Value} {od_law_due an_law_due : Option Addr} {sl_law_due : Array (Option Value)}
  {f_law_fits : Addr} {oc_law_fits kV_law_fits dc_law_fits pm_law_fits cd_law_fits ct_law_fits : Value} {od_law_fits an_law_fits : Option Addr} {sl_law_fits : Array (Option Value)}
  {f_law_is_integer : Addr} {oc_law_is_integer kV_law_is_integer dc_law_is_integer pm_law_is_integer cd_law_is_integer ct_law_is_integer : Value} {od_law_is_integer an_law_is_integer : Option Addr} {sl_law_is_integer : Array (Option Value)}
  {f_law_equal : Addr} {oc_law_equal kV_law_equal dc_law_equal pm_law_equal cd_law_equal ct_law_equal : Value} {od_law_equal an_law_equal : Option Addr} {sl_law_equal : Array (Option Value)}
  {f_beside : Addr} {oc_beside kV_beside dc_beside pm_beside cd_beside ct_beside : Value} {od_beside an_beside : Option Addr} {sl_beside : Array (Option Value)}
  {f_Counts___floordiv__ : Addr} {oc_Counts___floordiv__ kV_Counts___floordiv__ dc_Counts___floordiv__ pm_Counts___floordiv__ cd_Counts___floordiv__ ct_Counts___floordiv__ : Value} {od_Counts___floordiv__ an_Counts___floordiv__ : Option Addr} {sl_Counts___floordiv__ : Array (Option Value)}
  {f_Counts___mul__ : Addr} {oc_Counts___mul__ kV_Counts___mul__ dc_Counts___mul__ pm_Counts___mul__ cd_Counts___mul__ ct_Counts___mul__ : Value} {od_Counts___mul__ an_Counts___mul__ : Option Addr} {sl_Counts___mul__ : Array (Option Value)}
  {f_Counts___sub__ : Addr} {oc_Counts___sub__ kV_Counts___sub__ dc_Counts___sub__ pm_Counts___sub__ cd_Counts___sub__ ct_Counts___sub__ : Value} {od_Counts___sub__ an_Counts___sub__ : Option Addr} {sl_Counts___sub__ : Array (Option Value)}
  {f_Counts___mod__ : Addr} {oc_Counts___mod__ kV_Counts___mod__ dc_Counts___mod__ pm_Counts___mod__ cd_Counts___mod__ ct_Counts___mod__ : Value} {od_Counts___mod__ an_Counts___mod__ : Option Addr} {sl_Counts___mod__ : Array (Option Value)}
  {f_law_refused : Addr} {oc_law_refused kV_law_refused dc_law_refused pm_law_refused cd_law_refused ct_law_refused : Value} {od_law_refused an_law_refused : Option Addr} {sl_law_refused : Array (Option Value)}
  {f_Counts_only : Addr} {oc_Counts_only kV_Counts_only dc_Counts_only pm_Counts_only cd_Counts_only ct_Counts_only : Value} {od_Counts_only an_Counts_only : Option Addr} {sl_Counts_only : Array (Option Value)}
  {f_Counts___rmul__ : Addr} {oc_Counts___rmul__ kV_Counts___rmul__ dc_Counts___rmul__ pm_Counts___rmul__ cd_Counts___rmul__ ct_Counts___rmul__ : Value} {od_Counts___rmul__ an_Counts___rmul__ : Option Addr} {sl_Counts___rmul__ : Array (Option Value)}
  {f_Counts___add__ : Addr} {oc_Counts___add__ kV_Counts___add__ dc_Counts___add__ pm_Counts___add__ cd_Counts___add__ ct_Counts___add__ : Value} {od_Counts___add__ an_Counts___add__ : Option Addr} {sl_Counts___add__ : Array (Option Value)}
  {f_Counts___eq__ : Addr} {oc_Counts___eq__ kV_Counts___eq__ dc_Counts___eq__ pm_Counts___eq__ cd_Counts___eq__ ct_Counts___eq__ : Value} {od_Counts___eq__ an_Counts___eq__ : Option Addr} {sl_Counts___eq__ : Array (Option Value)}
  {f_law : Addr} {oc_law kV_law dc_law pm_law cd_law ct_law : Value} {od_law an_law : Option Addr} {sl_law : Array (Option Value)}
  {c_Counts : Addr}
  {c_BadWord : Addr} {enm_BadWord eq_BadWord : Str} {eN_BadWord : Addr} {ebs_BadWord ebm_BadWord : List Value} {esn_BadWord : List Str} {esub_BadWord : List Value} {eab_BadWord : Bool} {ecol_BadWord : Option Bool} {edd_BadWord : Option Addr} {ek0_BadWord ek1_BadWord ek2_BadWord ek3_BadWord ek5_BadWord : Option Value}
  {c_BadNumber : Addr} {enm_BadNumber eq_BadNumber : Str} {eN_BadNumber : Addr} {ebs_BadNumber ebm_BadNumber : List Value} {esn_BadNumber : List Str} {esub_BadNumber : List Value} {eab_BadNumber : Bool} {ecol_BadNumber : Option Bool} {edd_BadNumber : Option Addr} {ek0_BadNumber ek1_BadNumber ek2_BadNumber ek3_BadNumber ek5_BadNumber : Option Value}
  {c_NoDivisor : Addr} {enm_NoDivisor eq_NoDivisor : Str} {eN_NoDivisor : Addr} {ebs_NoDivisor : List Value} {esn_NoDivisor : List Str} {esub_NoDivisor : List Value} {eab_NoDivisor : Bool} {ecol_NoDivisor : Option Bool} {edd_NoDivisor : Option Addr} {ek0_NoDivisor ek1_NoDivisor ek2_NoDivisor ek3_NoDivisor ek5_NoDivisor : Option Value}
  {c_CountsheldError : Addr}
  {p_Counts_of : Addr} {rs_Counts_of : List Value}
  {mrv_Counts : Addr} {mf1_Counts mf2_Counts : Option Value}
  {u_LETTERS : Value}
  {u_BEYOND : Value}
  (a_law_source : PySem.W.nsIn K mainGlobals "_law_source" = some (some (.ref f_law_source)))
  (a_law_mixed : PySem.W.nsIn K mainGlobals "_law_mixed" = some (some (.ref f_law_mixed)))
  (a_law_draw : PySem.W.nsIn K mainGlobals "_law_draw" = some (some (.ref f_law_draw)))
  (a_law_word : PySem.W.nsIn K mainGlobals "_law_word" = some (some (.ref f_law_word)))
  (a_law_number : PySem.W.nsIn K mainGlobals "_law_number" = some (some (.ref f_law_number)))
  (a_law_pairs : PySem.W.nsIn K mainGlobals "_law_pairs" = some (some (.ref f_law_pairs)))
  (a_law_model : PySem.W.nsIn K mainGlobals "_law_model" = some (some (.ref f_law_model)))
  (a_law_divisor : PySem.W.nsIn K mainGlobals "_law_divisor" = some (some (.ref f_law_divisor)))
  (a_is_word : PySem.W.nsIn K mainGlobals "is_word" = some (some (.ref f_is_word)))
  (a_check_word : PySem.W.nsIn K mainGlobals "_check_word" = some (some (.ref f_check_word)))
  (a_is_number : PySem.W.nsIn K mainGlobals "is_number" = some (some (.ref f_is_number)))
  (a_is_short : PySem.W.nsIn K mainGlobals "is_short" = some (some (.ref f_is_short)))
  (a_check_number : PySem.W.nsIn K mainGlobals "_check_number" = some (some (.ref f_check_number)))
  (a_counts_of : PySem.W.nsIn K mainGlobals "_counts_of" = some (some (.ref f_counts_of)))
  (a_is_pair : PySem.W.nsIn K mainGlobals "_is_pair" = some (some (.ref f_is_pair)))
  (a_law_told : PySem.W.nsIn K mainGlobals "_law_told" = some (some (.ref f_law_told)))
  (a_check_divisor : PySem.W.nsIn K mainGlobals "_check_divisor" = some (some (.ref f_check_divisor)))
  (a_law_due : PySem.W.nsIn K mainGlobals "_law_due" = some (some (.ref f_law_due)))
  (a_law_fits : PySem.W.nsIn K mainGlobals "_law_fits" = some (some (.ref f_law_fits)))
  (a_law_is_integer : PySem.W.nsIn K mainGlobals "_law_is_integer" = some (some (.ref f_law_is_integer)))
  (a_law_equal : PySem.W.nsIn K mainGlobals "_law_equal" = some (some (.ref f_law_equal)))
  (a_beside : PySem.W.nsIn K mainGlobals "_beside" = some (some (.ref f_beside)))
  (a_law_refused : PySem.W.nsIn K mainGlobals "_law_refused" = some (some (.ref f_law_refused)))
  (a_law : PySem.W.nsIn K mainGlobals "law" = some (some (.ref f_law)))
  (vm_Counts : PySem.W.nsIn K mainGlobals "Counts" = some (some (.ref c_Counts)))
  (vm_BadWord : PySem.W.nsIn K mainGlobals "BadWord" = some (some (.ref c_BadWord)))
  (vm_BadNumber : PySem.W.nsIn K mainGlobals "BadNumber" = some (some (.ref c_BadNumber)))
  (vm_NoDivisor : PySem.W.nsIn K mainGlobals "NoDivisor" = some (some (.ref c_NoDivisor)))
  (l_law_source : K.lookup f_law_source = some ⟨oc_law_source, od_law_source, .func (PySem.W.fnOf "_law_source" "_law_source" (defArgs s_law_source) (defBody s_law_source) (defScope s_law_source) .none kV_law_source dc_law_source pm_law_source an_law_source cd_law_source ct_law_source), sl_law_source⟩)
  (cd2_law_source : PySem.W.codeIn K cd_law_source "_law_source" = true)
  (kp_law_source : PySem.W.keepIn K (.ref f_law_source) = true)
  (l_law_mixed : K.lookup f_law_mixed = some ⟨oc_law_mixed, od_law_mixed, .func (PySem.W.fnOf "_law_mixed" "_law_mixed" (defArgs s_law_mixed) (defBody s_law_mixed) (defScope s_law_mixed) .none kV_law_mixed dc_law_mixed pm_law_mixed an_law_mixed cd_law_mixed ct_law_mixed), sl_law_mixed⟩)
  (cd2_law_mixed : PySem.W.codeIn K cd_law_mixed "_law_mixed" = true)
  (kp_law_mixed : PySem.W.keepIn K (.ref f_law_mixed) = true)
  (l_law_draw : K.lookup f_law_draw = some ⟨oc_law_draw, od_law_draw, .func (PySem.W.fnOf "_law_draw" "_law_draw" (defArgs s_law_draw) (defBody s_law_draw) (defScope s_law_draw) .none kV_law_draw dc_law_draw pm_law_draw an_law_draw cd_law_draw ct_law_draw), sl_law_draw⟩)
  (cd2_law_draw : PySem.W.codeIn K cd_law_draw "_law_draw" = true)
  (kp_law_draw : PySem.W.keepIn K (.ref f_law_draw) = true)
  (l_law_word : K.lookup f_law_word = some ⟨oc_law_word, od_law_word, .func (PySem.W.fnOf "_law_word" "_law_word" (defArgs s_law_word) (defBody s_law_word) (defScope s_law_word) .none kV_law_word dc_law_word pm_law_word an_law_word cd_law_word ct_law_word), sl_law_word⟩)
  (cd2_law_word : PySem.W.codeIn K cd_law_word "_law_word" = true)
  (kp_law_word : PySem.W.keepIn K (.ref f_law_word) = true)
  (l_law_number : K.lookup f_law_number = some ⟨oc_law_number, od_law_number, .func (PySem.W.fnOf "_law_number" "_law_number" (defArgs s_law_number) (defBody s_law_number) (defScope s_law_number) .none kV_law_number dc_law_number pm_law_number an_law_number cd_law_number ct_law_number), sl_law_number⟩)
  (cd2_law_number : PySem.W.codeIn K cd_law_number "_law_number" = true)
  (kp_law_number : PySem.W.keepIn K (.ref f_law_number) = true)
  (l_law_pairs : K.lookup f_law_pairs = some ⟨oc_law_pairs, od_law_pairs, .func (PySem.W.fnOf "_law_pairs" "_law_pairs" (defArgs s_law_pairs) (defBody s_law_pairs) (defScope s_law_pairs) .none kV_law_pairs dc_law_pairs pm_law_pairs an_law_pairs cd_law_pairs ct_law_pairs), sl_law_pairs⟩)
  (cd2_law_pairs : PySem.W.codeIn K cd_law_pairs "_law_pairs" = true)
  (kp_law_pairs : PySem.W.keepIn K (.ref f_law_pairs) = true)
  (l_law_model : K.lookup f_law_model = some ⟨oc_law_model, od_law_model, .func (PySem.W.fnOf "_law_model" "_law_model" (defArgs s_law_model) (defBody s_law_model) (defScope s_law_model) .none kV_law_model dc_law_model pm_law_model an_law_model cd_law_model ct_law_model), sl_law_model⟩)
  (cd2_law_model : PySem.W.codeIn K cd_law_model "_law_model" = true)
  (kp_law_model : PySem.W.keepIn K (.ref f_law_model) = true)
  (l_law_divisor : K.lookup f_law_divisor = some ⟨oc_law_divisor, od_law_divisor, .func (PySem.W.fnOf "_law_divisor" "_law_divisor" (defArgs s_law_divisor) (defBody s_law_divisor) (defScope s_law_divisor) .none kV_law_divisor dc_law_divisor pm_law_divisor an_law_divisor cd_law_divisor ct_law_divisor), sl_law_divisor⟩)
  (cd2_law_divisor : PySem.W.codeIn K cd_law_divisor "_law_divisor" = true)
  (kp_law_divisor : PySem.W.keepIn K (.ref f_law_divisor) = true)
  (l_is_word : K.lookup f_is_word = some ⟨oc_is_word, od_is_word, .func (PySem.W.fnOf "is_word" "is_word" (defArgs s_is_word) (defBody s_is_word) (defScope s_is_word) .none kV_is_word dc_is_word pm_is_word an_is_word cd_is_word ct_is_word), sl_is_word⟩)
  (cd2_is_word : PySem.W.codeIn K cd_is_word "is_word" = true)
  (kp_is_word : PySem.W.keepIn K (.ref f_is_word) = true)
  (a_BadWord___init__ : PySem.W.findIn K (.ref c_BadWord) "__init__" = some (some (.ref f_BadWord___init__)))
  (l_BadWord___init__ : K.lookup f_BadWord___init__ = some ⟨oc_BadWord___init__, od_BadWord___init__, .func (PySem.W.fnOf "__init__" "BadWord.__init__" (defArgs s_BadWord___init__) (defBody s_BadWord___init__) (defScope s_BadWord___init__) .none kV_BadWord___init__ dc_BadWord___init__ pm_BadWord___init__ an_BadWord___init__ cd_BadWord___init__ ct_BadWord___init__), sl_BadWord___init__⟩)
  (cd2_BadWord___init__ : PySem.W.codeIn K cd_BadWord___init__ "BadWord.__init__" = true)
  (kp_BadWord___init__ : PySem.W.keepIn K (.ref f_BadWord___init__) = true)
  (l_check_word : K.lookup f_check_word = some ⟨oc_check_word, od_check_word, .func (PySem.W.fnOf "_check_word" "_check_word" (defArgs s_check_word) (defBody s_check_word) (defScope s_check_word) .none kV_check_word dc_check_word pm_check_word an_check_word cd_check_word ct_check_word), sl_check_word⟩)
  (cd2_check_word : PySem.W.codeIn K cd_check_word "_check_word" = true)
  (kp_check_word : PySem.W.keepIn K (.ref f_check_word) = true)
  (l_is_number : K.lookup f_is_number = some ⟨oc_is_number, od_is_number, .func (PySem.W.fnOf "is_number" "is_number" (defArgs s_is_number) (defBody s_is_number) (defScope s_is_number) .none kV_is_number dc_is_number pm_is_number an_is_number cd_is_number ct_is_number), sl_is_number⟩)
  (cd2_is_number : PySem.W.codeIn K cd_is_number "is_number" = true)
  (kp_is_number : PySem.W.keepIn K (.ref f_is_number) = true)
  (l_is_short : K.lookup f_is_short = some ⟨oc_is_short, od_is_short, .func (PySem.W.fnOf "is_short" "is_short" (defArgs s_is_short) (defBody s_is_short) (defScope s_is_short) .none kV_is_short dc_is_short pm_is_short an_is_short cd_is_short ct_is_short), sl_is_short⟩)
  (cd2_is_short : PySem.W.codeIn K cd_is_short "is_short" = true)
  (kp_is_short : PySem.W.keepIn K (.ref f_is_short) = true)
  (a_BadNumber___init__ : PySem.W.findIn K (.ref c_BadNumber) "__init__" = some (some (.ref f_BadNumber___init__)))
  (l_BadNumber___init__ : K.lookup f_BadNumber___init__ = some ⟨oc_BadNumber___init__, od_BadNumber___init__, .func (PySem.W.fnOf "__init__" "BadNumber.__init__" (defArgs s_BadNumber___init__) (defBody s_BadNumber___init__) (defScope s_BadNumber___init__) .none kV_BadNumber___init__ dc_BadNumber___init__ pm_BadNumber___init__ an_BadNumber___init__ cd_BadNumber___init__ ct_BadNumber___init__), sl_BadNumber___init__⟩)
  (cd2_BadNumber___init__ : PySem.W.codeIn K cd_BadNumber___init__ "BadNumber.__init__" = true)
  (kp_BadNumber___init__ : PySem.W.keepIn K (.ref f_BadNumber___init__) = true)
  (l_check_number : K.lookup f_check_number = some ⟨oc_check_number, od_check_number, .func (PySem.W.fnOf "_check_number" "_check_number" (defArgs s_check_number) (defBody s_check_number) (defScope s_check_number) .none kV_check_number dc_check_number pm_check_number an_check_number cd_check_number ct_check_number), sl_check_number⟩)
  (cd2_check_number : PySem.W.codeIn K cd_check_number "_check_number" = true)
  (kp_check_number : PySem.W.keepIn K (.ref f_check_number) = true)
  (a_Counts___init__ : PySem.W.findIn K (.ref c_Counts) "__init__" = some (some (.ref f_Counts___init__)))
  (l_Counts___init__ : K.lookup f_Counts___init__ = some ⟨oc_Counts___init__, od_Counts___init__, .func (PySem.W.fnOf "__init__" "Counts.__init__" (defArgs s_Counts___init__) (defBody s_Counts___init__) (defScope s_Counts___init__) .none kV_Counts___init__ dc_Counts___init__ pm_Counts___init__ an_Counts___init__ cd_Counts___init__ ct_Counts___init__), sl_Counts___init__⟩)
  (cd2_Counts___init__ : PySem.W.codeIn K cd_Counts___init__ "Counts.__init__" = true)
  (kp_Counts___init__ : PySem.W.keepIn K (.ref f_Counts___init__) = true)
  (l_counts_of : K.lookup f_counts_of = some ⟨oc_counts_of, od_counts_of, .func (PySem.W.fnOf "_counts_of" "_counts_of" (defArgs s_counts_of) (defBody s_counts_of) (defScope s_counts_of) .none kV_counts_of dc_counts_of pm_counts_of an_counts_of cd_counts_of ct_counts_of), sl_counts_of⟩)
  (cd2_counts_of : PySem.W.codeIn K cd_counts_of "_counts_of" = true)
  (kp_counts_of : PySem.W.keepIn K (.ref f_counts_of) = true)
  (l_is_pair : K.lookup f_is_pair = some ⟨oc_is_pair, od_is_pair, .func (PySem.W.fnOf "_is_pair" "_is_pair" (defArgs s_is_pair) (defBody s_is_pair) (defScope s_is_pair) .none kV_is_pair dc_is_pair pm_is_pair an_is_pair cd_is_pair ct_is_pair), sl_is_pair⟩)
  (cd2_is_pair : PySem.W.codeIn K cd_is_pair "_is_pair" = true)
  (kp_is_pair : PySem.W.keepIn K (.ref f_is_pair) = true)
  (cm_Counts_of : PySem.W.findCls K (.ref c_Counts) (.type "type") "of" = some (.get (.builtin "classmethod.__get__") (.ref p_Counts_of) .none (.ref c_Counts)))
  (rc_Counts_of : PySem.W.recIn K p_Counts_of "classmethod" = some (.ref f_Counts_of :: rs_Counts_of))
  (fi_Counts_of : PySem.W.fnIn K f_Counts_of = true)
  (l_Counts_of : K.lookup f_Counts_of = some ⟨oc_Counts_of, od_Counts_of, .func (PySem.W.fnOf "of" "Counts.of" (defArgs s_Counts_of) (defBody s_Counts_of) (defScope s_Counts_of) .none kV_Counts_of dc_Counts_of pm_Counts_of an_Counts_of cd_Counts_of ct_Counts_of), sl_Counts_of⟩)
  (cd2_Counts_of : PySem.W.codeIn K cd_Counts_of "Counts.of" = true)
  (kp_Counts_of : PySem.W.keepIn K (.ref f_Counts_of) = true)
  (l_law_told : K.lookup f_law_told = some ⟨oc_law_told, od_law_told, .func (PySem.W.fnOf "_law_told" "_law_told" (defArgs s_law_told) (defBody s_law_told) (defScope s_law_told) .none kV_law_told dc_law_told pm_law_told an_law_told cd_law_told ct_law_told), sl_law_told⟩)
  (cd2_law_told : PySem.W.codeIn K cd_law_told "_law_told" = true)
  (kp_law_told : PySem.W.keepIn K (.ref f_law_told) = true)
  (a_Counts_words : PySem.W.findIn K (.ref c_Counts) "words" = some (some (.ref f_Counts_words)))
  (l_Counts_words : K.lookup f_Counts_words = some ⟨oc_Counts_words, od_Counts_words, .func (PySem.W.fnOf "words" "Counts.words" (defArgs s_Counts_words) (defBody s_Counts_words) (defScope s_Counts_words) .none kV_Counts_words dc_Counts_words pm_Counts_words an_Counts_words cd_Counts_words ct_Counts_words), sl_Counts_words⟩)
  (cd2_Counts_words : PySem.W.codeIn K cd_Counts_words "Counts.words" = true)
  (kp_Counts_words : PySem.W.keepIn K (.ref f_Counts_words) = true)
  (fn_Counts_words : PySem.W.isFn K (.ref f_Counts_words) = true)
  (a_Counts_pairs : PySem.W.findIn K (.ref c_Counts) "pairs" = some (some (.ref f_Counts_pairs)))
  (l_Counts_pairs : K.lookup f_Counts_pairs = some ⟨oc_Counts_pairs, od_Counts_pairs, .func (PySem.W.fnOf "pairs" "Counts.pairs" (defArgs s_Counts_pairs) (defBody s_Counts_pairs) (defScope s_Counts_pairs) .none kV_Counts_pairs dc_Counts_pairs pm_Counts_pairs an_Counts_pairs cd_Counts_pairs ct_Counts_pairs), sl_Counts_pairs⟩)
  (cd2_Counts_pairs : PySem.W.codeIn K cd_Counts_pairs "Counts.pairs" = true)
  (kp_Counts_pairs : PySem.W.keepIn K (.ref f_Counts_pairs) = true)
  (fn_Counts_pairs : PySem.W.isFn K (.ref f_Counts_pairs) = true)
  (a_NoDivisor___init__ : PySem.W.findIn K (.ref c_NoDivisor) "__init__" = some (some (.ref f_NoDivisor___init__)))
  (l_NoDivisor___init__ : K.lookup f_NoDivisor___init__ = some ⟨oc_NoDivisor___init__, od_NoDivisor___init__, .func (PySem.W.fnOf "__init__" "NoDivisor.__init__" (defArgs s_NoDivisor___init__) (defBody s_NoDivisor___init__) (defScope s_NoDivisor___init__) .none kV_NoDivisor___init__ dc_NoDivisor___init__ pm_NoDivisor___init__ an_NoDivisor___init__ cd_NoDivisor___init__ ct_NoDivisor___init__), sl_NoDivisor___init__⟩)
  (cd2_NoDivisor___init__ : PySem.W.codeIn K cd_NoDivisor___init__ "NoDivisor.__init__" = true)
  (kp_NoDivisor___init__ : PySem.W.keepIn K (.ref f_NoDivisor___init__) = true)
  (a_Counts___bool__ : PySem.W.findIn K (.ref c_Counts) "__bool__" = some (some (.ref f_Counts___bool__)))
  (l_Counts___bool__ : K.lookup f_Counts___bool__ = some ⟨oc_Counts___bool__, od_Counts___bool__, .func (PySem.W.fnOf "__bool__" "Counts.__bool__" (defArgs s_Counts___bool__) (defBody s_Counts___bool__) (defScope s_Counts___bool__) .none kV_Counts___bool__ dc_Counts___bool__ pm_Counts___bool__ an_Counts___bool__ cd_Counts___bool__ ct_Counts___bool__), sl_Counts___bool__⟩)
  (cd2_Counts___bool__ : PySem.W.codeIn K cd_Counts___bool__ "Counts.__bool__" = true)
  (kp_Counts___bool__ : PySem.W.keepIn K (.ref f_Counts___bool__) = true)
  (fn_Counts___bool__ : PySem.W.isFn K (.ref f_Counts___bool__) = true)
  (l_check_divisor : K.lookup f_check_divisor = some ⟨oc_check_divisor, od_check_divisor, .func (PySem.W.fnOf "_check_divisor" "_check_divisor" (defArgs s_check_divisor) (defBody s_check_divisor) (defScope s_check_divisor) .none kV_check_divisor dc_check_divisor pm_check_divisor an_check_divisor cd_check_divisor ct_check_divisor), sl_check_divisor⟩)
  (cd2_check_divisor : PySem.W.codeIn K cd_check_divisor "_check_divisor" = true)
  (kp_check_divisor : PySem.W.keepIn K (.ref f_check_divisor) = true)
  (l_law_due : K.lookup f_law_due = some ⟨oc_law_due, od_law_due, .func (PySem.W.fnOf "_law_due" "_law_due" (defArgs s_law_due) (defBody s_law_due) (defScope s_law_due) .none kV_law_due dc_law_due pm_law_due an_law_due cd_law_due ct_law_due), sl_law_due⟩)
  (cd2_law_due : PySem.W.codeIn K cd_law_due "_law_due" = true)
  (kp_law_due : PySem.W.keepIn K (.ref f_law_due) = true)
  (l_law_fits : K.lookup f_law_fits = some ⟨oc_law_fits, od_law_fits, .func (PySem.W.fnOf "_law_fits" "_law_fits" (defArgs s_law_fits) (defBody s_law_fits) (defScope s_law_fits) .none kV_law_fits dc_law_fits pm_law_fits an_law_fits cd_law_fits ct_law_fits), sl_law_fits⟩)
  (cd2_law_fits : PySem.W.codeIn K cd_law_fits "_law_fits" = true)
  (kp_law_fits : PySem.W.keepIn K (.ref f_law_fits) = true)
  (l_law_is_integer : K.lookup f_law_is_integer = some ⟨oc_law_is_integer, od_law_is_integer, .func (PySem.W.fnOf "_law_is_integer" "_law_is_integer" (defArgs s_law_is_integer) (defBody s_law_is_integer) (defScope s_law_is_integer) .none kV_law_is_integer dc_law_is_integer pm_law_is_integer an_law_is_integer cd_law_is_integer ct_law_is_integer), sl_law_is_integer⟩)
  (cd2_law_is_integer : PySem.W.codeIn K cd_law_is_integer "_law_is_integer" = true)
  (kp_law_is_integer : PySem.W.keepIn K (.ref f_law_is_integer) = true)
  (l_law_equal : K.lookup f_law_equal = some ⟨oc_law_equal, od_law_equal, .func (PySem.W.fnOf "_law_equal" "_law_equal" (defArgs s_law_equal) (defBody s_law_equal) (defScope s_law_equal) .none kV_law_equal dc_law_equal pm_law_equal an_law_equal cd_law_equal ct_law_equal), sl_law_equal⟩)
  (cd2_law_equal : PySem.W.codeIn K cd_law_equal "_law_equal" = true)
  (kp_law_equal : PySem.W.keepIn K (.ref f_law_equal) = true)
  (l_beside : K.lookup f_beside = some ⟨oc_beside, od_beside, .func (PySem.W.fnOf "_beside" "_beside" (defArgs s_beside) (defBody s_beside) (defScope s_beside) .none kV_beside dc_beside pm_beside an_beside cd_beside ct_beside), sl_beside⟩)
  (cd2_beside : PySem.W.codeIn K cd_beside "_beside" = true)
  (kp_beside : PySem.W.keepIn K (.ref f_beside) = true)
  (a_Counts___floordiv__ : PySem.W.findIn K (.ref c_Counts) "__floordiv__" = some (some (.ref f_Counts___floordiv__)))
  (l_Counts___floordiv__ : K.lookup f_Counts___floordiv__ = some ⟨oc_Counts___floordiv__, od_Counts___floordiv__, .func (PySem.W.fnOf "__floordiv__" "Counts.__floordiv__" (defArgs s_Counts___floordiv__) (defBody s_Counts___floordiv__) (defScope s_Counts___floordiv__) .none kV_Counts___floordiv__ dc_Counts___floordiv__ pm_Counts___floordiv__ an_Counts___floordiv__ cd_Counts___floordiv__ ct_Counts___floordiv__), sl_Counts___floordiv__⟩)
  (cd2_Counts___floordiv__ : PySem.W.codeIn K cd_Counts___floordiv__ "Counts.__floordiv__" = true)
  (kp_Counts___floordiv__ : PySem.W.keepIn K (.ref f_Counts___floordiv__) = true)
  (fn_Counts___floordiv__ : PySem.W.isFn K (.ref f_Counts___floordiv__) = true)
  (a_Counts___mul__ : PySem.W.findIn K (.ref c_Counts) "__mul__" = some (some (.ref f_Counts___mul__)))
  (l_Counts___mul__ : K.lookup f_Counts___mul__ = some ⟨oc_Counts___mul__, od_Counts___mul__, .func (PySem.W.fnOf "__mul__" "Counts.__mul__" (defArgs s_Counts___mul__) (defBody s_Counts___mul__) (defScope s_Counts___mul__) .none kV_Counts___mul__ dc_Counts___mul__ pm_Counts___mul__ an_Counts___mul__ cd_Counts___mul__ ct_Counts___mul__), sl_Counts___mul__⟩)
  (cd2_Counts___mul__ : PySem.W.codeIn K cd_Counts___mul__ "Counts.__mul__" = true)
  (kp_Counts___mul__ : PySem.W.keepIn K (.ref f_Counts___mul__) = true)
  (fn_Counts___mul__ : PySem.W.isFn K (.ref f_Counts___mul__) = true)
  (a_Counts___sub__ : PySem.W.findIn K (.ref c_Counts) "__sub__" = some (some (.ref f_Counts___sub__)))
  (l_Counts___sub__ : K.lookup f_Counts___sub__ = some ⟨oc_Counts___sub__, od_Counts___sub__, .func (PySem.W.fnOf "__sub__" "Counts.__sub__" (defArgs s_Counts___sub__) (defBody s_Counts___sub__) (defScope s_Counts___sub__) .none kV_Counts___sub__ dc_Counts___sub__ pm_Counts___sub__ an_Counts___sub__ cd_Counts___sub__ ct_Counts___sub__), sl_Counts___sub__⟩)
  (cd2_Counts___sub__ : PySem.W.codeIn K cd_Counts___sub__ "Counts.__sub__" = true)
  (kp_Counts___sub__ : PySem.W.keepIn K (.ref f_Counts___sub__) = true)
  (fn_Counts___sub__ : PySem.W.isFn K (.ref f_Counts___sub__) = true)
  (a_Counts___mod__ : PySem.W.findIn K (.ref c_Counts) "__mod__" = some (some (.ref f_Counts___mod__)))
  (l_Counts___mod__ : K.lookup f_Counts___mod__ = some ⟨oc_Counts___mod__, od_Counts___mod__, .func (PySem.W.fnOf "__mod__" "Counts.__mod__" (defArgs s_Counts___mod__) (defBody s_Counts___mod__) (defScope s_Counts___mod__) .none kV_Counts___mod__ dc_Counts___mod__ pm_Counts___mod__ an_Counts___mod__ cd_Counts___mod__ ct_Counts___mod__), sl_Counts___mod__⟩)
  (cd2_Counts___mod__ : PySem.W.codeIn K cd_Counts___mod__ "Counts.__mod__" = true)
  (kp_Counts___mod__ : PySem.W.keepIn K (.ref f_Counts___mod__) = true)
  (fn_Counts___mod__ : PySem.W.isFn K (.ref f_Counts___mod__) = true)
  (l_law_refused : K.lookup f_law_refused = some ⟨oc_law_refused, od_law_refused, .func (PySem.W.fnOf "_law_refused" "_law_refused" (defArgs s_law_refused) (defBody s_law_refused) (defScope s_law_refused) .none kV_law_refused dc_law_refused pm_law_refused an_law_refused cd_law_refused ct_law_refused), sl_law_refused⟩)
  (cd2_law_refused : PySem.W.codeIn K cd_law_refused "_law_refused" = true)
  (kp_law_refused : PySem.W.keepIn K (.ref f_law_refused) = true)
  (a_Counts_only : PySem.W.findIn K (.ref c_Counts) "only" = some (some (.ref f_Counts_only)))
  (l_Counts_only : K.lookup f_Counts_only = some ⟨oc_Counts_only, od_Counts_only, .func (PySem.W.fnOf "only" "Counts.only" (defArgs s_Counts_only) (defBody s_Counts_only) (defScope s_Counts_only) .none kV_Counts_only dc_Counts_only pm_Counts_only an_Counts_only cd_Counts_only ct_Counts_only), sl_Counts_only⟩)
  (cd2_Counts_only : PySem.W.codeIn K cd_Counts_only "Counts.only" = true)
  (kp_Counts_only : PySem.W.keepIn K (.ref f_Counts_only) = true)
  (fn_Counts_only : PySem.W.isFn K (.ref f_Counts_only) = true)
  (a_Counts___rmul__ : PySem.W.findIn K (.ref c_Counts) "__rmul__" = some (some (.ref f_Counts___rmul__)))
  (l_Counts___rmul__ : K.lookup f_Counts___rmul__ = some ⟨oc_Counts___rmul__, od_Counts___rmul__, .func (PySem.W.fnOf "__rmul__" "Counts.__rmul__" (defArgs s_Counts___rmul__) (defBody s_Counts___rmul__) (defScope s_Counts___rmul__) .none kV_Counts___rmul__ dc_Counts___rmul__ pm_Counts___rmul__ an_Counts___rmul__ cd_Counts___rmul__ ct_Counts___rmul__), sl_Counts___rmul__⟩)
  (cd2_Counts___rmul__ : PySem.W.codeIn K cd_Counts___rmul__ "Counts.__rmul__" = true)
  (kp_Counts___rmul__ : PySem.W.keepIn K (.ref f_Counts___rmul__) = true)
  (fn_Counts___rmul__ : PySem.W.isFn K (.ref f_Counts___rmul__) = true)
  (a_Counts___add__ : PySem.W.findIn K (.ref c_Counts) "__add__" = some (some (.ref f_Counts___add__)))
  (l_Counts___add__ : K.lookup f_Counts___add__ = some ⟨oc_Counts___add__, od_Counts___add__, .func (PySem.W.fnOf "__add__" "Counts.__add__" (defArgs s_Counts___add__) (defBody s_Counts___add__) (defScope s_Counts___add__) .none kV_Counts___add__ dc_Counts___add__ pm_Counts___add__ an_Counts___add__ cd_Counts___add__ ct_Counts___add__), sl_Counts___add__⟩)
  (cd2_Counts___add__ : PySem.W.codeIn K cd_Counts___add__ "Counts.__add__" = true)
  (kp_Counts___add__ : PySem.W.keepIn K (.ref f_Counts___add__) = true)
  (fn_Counts___add__ : PySem.W.isFn K (.ref f_Counts___add__) = true)
  (a_Counts___eq__ : PySem.W.findIn K (.ref c_Counts) "__eq__" = some (some (.ref f_Counts___eq__)))
  (l_Counts___eq__ : K.lookup f_Counts___eq__ = some ⟨oc_Counts___eq__, od_Counts___eq__, .func (PySem.W.fnOf "__eq__" "Counts.__eq__" (defArgs s_Counts___eq__) (defBody s_Counts___eq__) (defScope s_Counts___eq__) .none kV_Counts___eq__ dc_Counts___eq__ pm_Counts___eq__ an_Counts___eq__ cd_Counts___eq__ ct_Counts___eq__), sl_Counts___eq__⟩)
  (cd2_Counts___eq__ : PySem.W.codeIn K cd_Counts___eq__ "Counts.__eq__" = true)
  (kp_Counts___eq__ : PySem.W.keepIn K (.ref f_Counts___eq__) = true)
  (fn_Counts___eq__ : PySem.W.isFn K (.ref f_Counts___eq__) = true)
  (l_law : K.lookup f_law = some ⟨oc_law, od_law, .func (PySem.W.fnOf "law" "law" (defArgs s_law) (defBody s_law) (defScope s_law) .none kV_law dc_law pm_law an_law cd_law ct_law), sl_law⟩)
  (cd2_law : PySem.W.codeIn K cd_law "law" = true)
  (kp_law : PySem.W.keepIn K (.ref f_law) = true)
  (z_ZeroDivisionError : PySem.W.nsIn K mainGlobals "ZeroDivisionError" = some none)
  (z_abs : PySem.W.nsIn K mainGlobals "abs" = some none)
  (z_all : PySem.W.nsIn K mainGlobals "all" = some none)
  (z_bool : PySem.W.nsIn K mainGlobals "bool" = some none)
  (z_enumerate : PySem.W.nsIn K mainGlobals "enumerate" = some none)
  (z_int : PySem.W.nsIn K mainGlobals "int" = some none)
  (z_isinstance : PySem.W.nsIn K mainGlobals "isinstance" = some none)
  (z_len : PySem.W.nsIn K mainGlobals "len" = some none)
  (z_list : PySem.W.nsIn K mainGlobals "list" = some none)
  (z_min : PySem.W.nsIn K mainGlobals "min" = some none)
  (z_range : PySem.W.nsIn K mainGlobals "range" = some none)
  (z_sorted : PySem.W.nsIn K mainGlobals "sorted" = some none)
  (z_str : PySem.W.nsIn K mainGlobals "str" = some none)
  (z_tuple : PySem.W.nsIn K mainGlobals "tuple" = some none)
  (pg_Counts : PySem.W.plainGet K c_Counts Str.empty = true)
  (hd_Counts : PySem.W.hasDictIn K c_Counts = true)
  (po_Counts : PySem.W.plainOver K c_Counts = true)
  (sa_Counts : PySem.W.findIn K (.ref c_Counts) "__setattr__" = some (some (.builtin "object.__setattr__")))
  (ia_Counts : PySem.W.findIn K (.ref c_Counts) "__class__" = some (some (.builtin "object.__class__")))
  (im_Counts : PySem.W.mroIn K c_Counts (.type "object") = some true)
  (na_Counts__numbers : PySem.W.findIn K (.ref c_Counts) "_numbers" = some none)
  (ns_Counts : PySem.W.noSeq K c_Counts = true)
  (sf_Counts : PySem.W.selfFirst K c_Counts = true)
  (nf_Counts : PySem.W.notFirst K c_Counts (.ref c_Counts) = true)
  (ne_Counts : PySem.W.findIn K (.ref c_Counts) "__ne__" = some (some (.builtin "object.__ne__")))
  (mrr_Counts : PySem.W.findIn K (.ref c_Counts) (PySem.dunderR "mul") = some (some (.ref mrv_Counts)))
  (mff_Counts : PySem.W.findIn K (.type "int") (PySem.dunder "mul") = some mf1_Counts)
  (mfg_Counts : PySem.W.findIn K (.type "int") (PySem.dunderR "mul") = some mf2_Counts)
  (msu_Counts : PySem.W.subIn K (.type "int") (.ref c_Counts) = some false)
  (mus_Counts : PySem.W.subIn K (.ref c_Counts) (.type "int") = some false)
  (mk_Counts : PySem.W.makesIn K c_Counts = true)
  (fn_Counts : PySem.W.isFn K (.ref f_Counts___init__) = true)
  (kc_Counts : PySem.W.keepIn K (.ref c_Counts) = true)
  (rd_Counts : PySem.W.readsIn K c_Counts (.type "type") = true)
  (ga_Counts : PySem.W.specialIn K (.ref c_Counts) "__getattribute__" = some (some (.builtin "type.__getattribute__")))
  (u_Counts___init__ : PySem.W.findCls K (.ref c_Counts) (.type "type") "__init__" = some (.val (.ref f_Counts___init__)))
  (ihn : PySem.W.specialIn K (.builtin "object.__class__") "__get__" = some (some (.builtin "getset_descriptor.__get__")))
  (iht : PySem.W.takesIn K (.builtin "object.__class__") = some true)
  (kit_Counts_Counts : PySem.W.kitOne K (.ref c_Counts) (.ref c_Counts) = some true)
  (ec_LETTERS : PySem.W.nsIn K mainGlobals "_LETTERS" = some (some u_LETTERS))
  (er_LETTERS : RelV (.str "abcdefghijklmnopqrstuvwxyz") u_LETTERS)
  (ec_BEYOND : PySem.W.nsIn K mainGlobals "_BEYOND" = some (some u_BEYOND))
  (er_BEYOND : RelV (.int 1000000000000000000000000000000) u_BEYOND)
  (xl_BadWord : K.lookup c_BadWord = some (excClassObj enm_BadWord eq_BadWord c_BadWord eN_BadWord ebs_BadWord ebm_BadWord true esn_BadWord esub_BadWord eab_BadWord ecol_BadWord edd_BadWord ek0_BadWord ek1_BadWord ek2_BadWord ek3_BadWord ek5_BadWord "ValueError.__new__"))
  (xr_BadWord : PySem.HandSPX.refsVE ebm_BadWord = true)
  (xs_BadWord : PySem.W.findIn K (.ref c_BadWord) "__setattr__" = some (some (.builtin "object.__setattr__")))
  (xb_BadWord : PySem.W.subIn K (.ref c_BadWord) (.type "BaseException") = some true)
  (xt_BadWord : PySem.W.typeIn K (.ref c_BadWord) = some (.type "type"))
  (xk_BadWord : PySem.W.keepIn K (.ref c_BadWord) = true)
  (xi_BadWord : PySem.W.typeIn K (.ref f_BadWord___init__) = some (.type "function"))
  (xn_BadWord_word : PySem.W.findIn K (.ref c_BadWord) "word" = some none)
  (ts_BadWord_NoDivisor : PySem.W.subIn K (.ref c_BadWord) (.ref c_NoDivisor) = some false)
  (tc_NoDivisor : PySem.W.isClsIn K c_NoDivisor = true)
  (xl_BadNumber : K.lookup c_BadNumber = some (excClassObj enm_BadNumber eq_BadNumber c_BadNumber eN_BadNumber ebs_BadNumber ebm_BadNumber true esn_BadNumber esub_BadNumber eab_BadNumber ecol_BadNumber edd_BadNumber ek0_BadNumber ek1_BadNumber ek2_BadNumber ek3_BadNumber ek5_BadNumber "ValueError.__new__"))
  (xr_BadNumber : PySem.HandSPX.refsVE ebm_BadNumber = true)
  (xs_BadNumber : PySem.W.findIn K (.ref c_BadNumber) "__setattr__" = some (some (.builtin "object.__setattr__")))
  (xb_BadNumber : PySem.W.subIn K (.ref c_BadNumber) (.type "BaseException") = some true)
  (xt_BadNumber : PySem.W.typeIn K (.ref c_BadNumber) = some (.type "type"))
  (xk_BadNumber : PySem.W.keepIn K (.ref c_BadNumber) = true)
  (xi_BadNumber : PySem.W.typeIn K (.ref f_BadNumber___init__) = some (.type "function"))
  (xn_BadNumber_number : PySem.W.findIn K (.ref c_BadNumber) "number" = some none)
  (ts_BadNumber_NoDivisor : PySem.W.subIn K (.ref c_BadNumber) (.ref c_NoDivisor) = some false)
  (xl_NoDivisor : K.lookup c_NoDivisor = some (excClassObj enm_NoDivisor eq_NoDivisor c_NoDivisor eN_NoDivisor ebs_NoDivisor [.type "ZeroDivisionError", .type "ArithmeticError", .type "Exception", .type "BaseException", .type "object"] true esn_NoDivisor esub_NoDivisor eab_NoDivisor ecol_NoDivisor edd_NoDivisor ek0_NoDivisor ek1_NoDivisor ek2_NoDivisor ek3_NoDivisor ek5_NoDivisor "ZeroDivisionError.__new__"))
  (xs_NoDivisor : PySem.W.findIn K (.ref c_NoDivisor) "__setattr__" = some (some (.builtin "object.__setattr__")))
  (xb_NoDivisor : PySem.W.subIn K (.ref c_NoDivisor) (.type "BaseException") = some true)
  (xt_NoDivisor : PySem.W.typeIn K (.ref c_NoDivisor) = some (.type "type"))
  (xk_NoDivisor : PySem.W.keepIn K (.ref c_NoDivisor) = true)
  (xi_NoDivisor : PySem.W.typeIn K (.ref f_NoDivisor___init__) = some (.type "function"))
  (xn_NoDivisor_word : PySem.W.findIn K (.ref c_NoDivisor) "word" = some none)
  (ts_NoDivisor_NoDivisor : PySem.W.subIn K (.ref c_NoDivisor) (.ref c_NoDivisor) = some true)
  (xg_NoDivisor : PySem.W.findIn K (.ref c_NoDivisor) "__getattribute__" = some (some (.builtin "BaseException.__getattribute__")))
  (xh_NoDivisor : PySem.W.findIn K (.ref c_NoDivisor) "__getattr__" = some none)
  (xd_NoDivisor : PySem.W.hasDictIn K c_NoDivisor = true)
  (xa_NoDivisor : PySem.W.findIn K (.ref c_NoDivisor) "__class__" = some (some (.builtin "object.__class__")))
  (xm_NoDivisor : PySem.W.mroIn K c_NoDivisor (.type "object") = some true)
  (xcn : PySem.W.specialIn K (.builtin "object.__class__") "__get__" = some (some (.builtin "getset_descriptor.__get__")))
  (xct : PySem.W.takesIn K (.builtin "object.__class__") = some true)
  (vm_CountsheldError : PySem.W.nsIn K mainGlobals "CountsheldError" = some (some (.ref c_CountsheldError)))
  (kt_NoDivisor_CountsheldError : PySem.W.kitOne K (.ref c_NoDivisor) (.ref c_CountsheldError) = some false)
  (kt_NoDivisor_ZeroDivisionError : PySem.W.kitOne K (.ref c_NoDivisor) (.type "ZeroDivisionError") = some true)
    : ∃ fd : FuncData, (∀ (s : Shared) (v : Value), BindsTo s fd ⟨[v], []⟩ [("script", v)]) ∧ ∀ base : Heap, K.In base → base.Ns mainGlobals mg → FnOk l.prog w K mg base CX0 12 fa fd ["script"] (sp_law K) := by
  have e := hfa.symm.trans (PySem.W.mg_of X G a_law)
  cases e
  have T : Txt K mg { f_law_source := f_law_source, fd_law_source := PySem.W.fnOf "_law_source" "_law_source" (defArgs s_law_source) (defBody s_law_source) (defScope s_law_source) .none kV_law_source dc_law_source pm_law_source an_law_source cd_law_source ct_law_source, f_law_mixed := f_law_mixed, fd_law_mixed := PySem.W.fnOf "_law_mixed" "_law_mixed" (defArgs s_law_mixed) (defBody s_law_mixed) (defScope s_law_mixed) .none kV_law_mixed dc_law_mixed pm_law_mixed an_law_mixed cd_law_mixed ct_law_mixed, f_law_draw := f_law_draw, fd_law_draw := PySem.W.fnOf "_law_draw" "_law_draw" (defArgs s_law_draw) (defBody s_law_draw) (defScope s_law_draw) .none kV_law_draw dc_law_draw pm_law_draw an_law_draw cd_law_draw ct_law_draw, f_law_word := f_law_word, fd_law_word := PySem.W.fnOf "_law_word" "_law_word" (defArgs s_law_word) (defBody s_law_word) (defScope s_law_word) .none kV_law_word dc_law_word pm_law_word an_law_word cd_law_word ct_law_word, f_law_number := f_law_number, fd_law_number := PySem.W.fnOf "_law_number" "_law_number" (defArgs s_law_number) (defBody s_law_number) (defScope s_law_number) .none kV_law_number dc_law_number pm_law_number an_law_number cd_law_number ct_law_number, f_law_pairs := f_law_pairs, fd_law_pairs := PySem.W.fnOf "_law_pairs" "_law_pairs" (defArgs s_law_pairs) (defBody s_law_pairs) (defScope s_law_pairs) .none kV_law_pairs dc_law_pairs pm_law_pairs an_law_pairs cd_law_pairs ct_law_pairs, f_law_model := f_law_model, fd_law_model := PySem.W.fnOf "_law_model" "_law_model" (defArgs s_law_model) (defBody s_law_model) (defScope s_law_model) .none kV_law_model dc_law_model pm_law_model an_law_model cd_law_model ct_law_model, f_law_divisor := f_law_divisor, fd_law_divisor := PySem.W.fnOf "_law_divisor" "_law_divisor" (defArgs s_law_divisor) (defBody s_law_divisor) (defScope s_law_divisor) .none kV_law_divisor dc_law_divisor pm_law_divisor an_law_divisor cd_law_divisor ct_law_divisor, f_is_word := f_is_word, fd_is_word := PySem.W.fnOf "is_word" "is_word" (defArgs s_is_word) (defBody s_is_word) (defScope s_is_word) .none kV_is_word dc_is_word pm_is_word an_is_word cd_is_word ct_is_word, f_BadWord___init__ := f_BadWord___init__, fd_BadWord___init__ := PySem.W.fnOf "__init__" "BadWord.__init__" (defArgs s_BadWord___init__) (defBody s_BadWord___init__) (defScope s_BadWord___init__) .none kV_BadWord___init__ dc_BadWord___init__ pm_BadWord___init__ an_BadWord___init__ cd_BadWord___init__ ct_BadWord___init__, f_check_word := f_check_word, fd_check_word := PySem.W.fnOf "_check_word" "_check_word" (defArgs s_check_word) (defBody s_check_word) (defScope s_check_word) .none kV_check_word dc_check_word pm_check_word an_check_word cd_check_word ct_check_word, f_is_number := f_is_number, fd_is_number := PySem.W.fnOf "is_number" "is_number" (defArgs s_is_number) (defBody s_is_number) (defScope s_is_number) .none kV_is_number dc_is_number pm_is_number an_is_number cd_is_number ct_is_number, f_is_short := f_is_short, fd_is_short := PySem.W.fnOf "is_short" "is_short" (defArgs s_is_short) (defBody s_is_short) (defScope s_is_short) .none kV_is_short dc_is_short pm_is_short an_is_short cd_is_short ct_is_short, f_BadNumber___init__ := f_BadNumber___init__, fd_BadNumber___init__ := PySem.W.fnOf "__init__" "BadNumber.__init__" (defArgs s_BadNumber___init__) (defBody s_BadNumber___init__) (defScope s_BadNumber___init__) .none kV_BadNumber___init__ dc_BadNumber___init__ pm_BadNumber___init__ an_BadNumber___init__ cd_BadNumber___init__ ct_BadNumber___init__, f_check_number := f_check_number, fd_check_number := PySem.W.fnOf "_check_number" "_check_number" (defArgs s_check_number) (defBody s_check_number) (defScope s_check_number) .none kV_check_number dc_check_number pm_check_number an_check_number cd_check_number ct_check_number, f_Counts___init__ := f_Counts___init__, fd_Counts___init__ := PySem.W.fnOf "__init__" "Counts.__init__" (defArgs s_Counts___init__) (defBody s_Counts___init__) (defScope s_Counts___init__) .none kV_Counts___init__ dc_Counts___init__ pm_Counts___init__ an_Counts___init__ cd_Counts___init__ ct_Counts___init__, f_counts_of := f_counts_of, fd_counts_of := PySem.W.fnOf "_counts_of" "_counts_of" (defArgs s_counts_of) (defBody s_counts_of) (defScope s_counts_of) .none kV_counts_of dc_counts_of pm_counts_of an_counts_of cd_counts_of ct_counts_of, f_is_pair := f_is_pair, fd_is_pair := PySem.W.fnOf "_is_pair" "_is_pair" (defArgs s_is_pair) (defBody s_is_pair) (defScope s_is_pair) .none kV_is_pair dc_is_pair pm_is_pair an_is_pair cd_is_pair ct_is_pair, f_Counts_of := f_Counts_of, fd_Counts_of := PySem.W.fnOf "of" "Counts.of" (defArgs s_Counts_of) (defBody s_Counts_of) (defScope s_Counts_of) .none kV_Counts_of dc_Counts_of pm_Counts_of an_Counts_of cd_Counts_of ct_Counts_of, f_law_told := f_law_told, fd_law_told := PySem.W.fnOf "_law_told" "_law_told" (defArgs s_law_told) (defBody s_law_told) (defScope s_law_told) .none kV_law_told dc_law_told pm_law_told an_law_told cd_law_told ct_law_told, f_Counts_words := f_Counts_words, fd_Counts_words := PySem.W.fnOf "words" "Counts.words" (defArgs s_Counts_words) (defBody s_Counts_words) (defScope s_Counts_words) .none kV_Counts_words dc_Counts_words pm_Counts_words an_Counts_words cd_Counts_words ct_Counts_words, f_Counts_pairs := f_Counts_pairs, fd_Counts_pairs := PySem.W.fnOf "pairs" "Counts.pairs" (defArgs s_Counts_pairs) (defBody s_Counts_pairs) (defScope s_Counts_pairs) .none kV_Counts_pairs dc_Counts_pairs pm_Counts_pairs an_Counts_pairs cd_Counts_pairs ct_Counts_pairs, f_NoDivisor___init__ := f_NoDivisor___init__, fd_NoDivisor___init__ := PySem.W.fnOf "__init__" "NoDivisor.__init__" (defArgs s_NoDivisor___init__) (defBody s_NoDivisor___init__) (defScope s_NoDivisor___init__) .none kV_NoDivisor___init__ dc_NoDivisor___init__ pm_NoDivisor___init__ an_NoDivisor___init__ cd_NoDivisor___init__ ct_NoDivisor___init__, f_Counts___bool__ := f_Counts___bool__, fd_Counts___bool__ := PySem.W.fnOf "__bool__" "Counts.__bool__" (defArgs s_Counts___bool__) (defBody s_Counts___bool__) (defScope s_Counts___bool__) .none kV_Counts___bool__ dc_Counts___bool__ pm_Counts___bool__ an_Counts___bool__ cd_Counts___bool__ ct_Counts___bool__, f_check_divisor := f_check_divisor, fd_check_divisor := PySem.W.fnOf "_check_divisor" "_check_divisor" (defArgs s_check_divisor) (defBody s_check_divisor) (defScope s_check_divisor) .none kV_check_divisor dc_check_divisor pm_check_divisor an_check_divisor cd_check_divisor ct_check_divisor, f_law_due := f_law_due, fd_law_due := PySem.W.fnOf "_law_due" "_law_due" (defArgs s_law_due) (defBody s_law_due) (defScope s_law_due) .none kV_law_due dc_law_due pm_law_due an_law_due cd_law_due ct_law_due, f_law_fits := f_law_fits, fd_law_fits := PySem.W.fnOf "_law_fits" "_law_fits" (defArgs s_law_fits) (defBody s_law_fits) (defScope s_law_fits) .none kV_law_fits dc_law_fits pm_law_fits an_law_fits cd_law_fits ct_law_fits, f_law_is_integer := f_law_is_integer, fd_law_is_integer := PySem.W.fnOf "_law_is_integer" "_law_is_integer" (defArgs s_law_is_integer) (defBody s_law_is_integer) (defScope s_law_is_integer) .none kV_law_is_integer dc_law_is_integer pm_law_is_integer an_law_is_integer cd_law_is_integer ct_law_is_integer, f_law_equal := f_law_equal, fd_law_equal := PySem.W.fnOf "_law_equal" "_law_equal" (defArgs s_law_equal) (defBody s_law_equal) (defScope s_law_equal) .none kV_law_equal dc_law_equal pm_law_equal an_law_equal cd_law_equal ct_law_equal, f_beside := f_beside, fd_beside := PySem.W.fnOf "_beside" "_beside" (defArgs s_beside) (defBody s_beside) (defScope s_beside) .none kV_beside dc_beside pm_beside an_beside cd_beside ct_beside, f_Counts___floordiv__ := f_Counts___floordiv__, fd_Counts___floordiv__ := PySem.W.fnOf "__floordiv__" "Counts.__floordiv__" (defArgs s_Counts___floordiv__) (defBody s_Counts___floordiv__) (defScope s_Counts___floordiv__) .none kV_Counts___floordiv__ dc_Counts___floordiv__ pm_Counts___floordiv__ an_Counts___floordiv__ cd_Counts___floordiv__ ct_Counts___floordiv__, f_Counts___mul__ := f_Counts___mul__, fd_Counts___mul__ := PySem.W.fnOf "__mul__" "Counts.__mul__" (defArgs s_Counts___mul__) (defBody s_Counts___mul__) (defScope s_Counts___mul__) .none kV_Counts___mul__ dc_Counts___mul__ pm_Counts___mul__ an_Counts___mul__ cd_Counts___mul__ ct_Counts___mul__, f_Counts___sub__ := f_Counts___sub__, fd_Counts___sub__ := PySem.W.fnOf "__sub__" "Counts.__sub__" (defArgs s_Counts___sub__) (defBody s_Counts___sub__) (defScope s_Counts___sub__) .none kV_Counts___sub__ dc_Counts___sub__ pm_Counts___sub__ an_Counts___sub__ cd_Counts___sub__ ct_Counts___sub__, f_Counts___mod__ := f_Counts___mod__, fd_Counts___mod__ := PySem.W.fnOf "__mod__" "Counts.__mod__" (defArgs s_Counts___mod__) (defBody s_Counts___mod__) (defScope s_Counts___mod__) .none kV_Counts___mod__ dc_Counts___mod__ pm_Counts___mod__ an_Counts___mod__ cd_Counts___mod__ ct_Counts___mod__, f_law_refused := f_law_refused, fd_law_refused := PySem.W.fnOf "_law_refused" "_law_refused" (defArgs s_law_refused) (defBody s_law_refused) (defScope s_law_refused) .none kV_law_refused dc_law_refused pm_law_refused an_law_refused cd_law_refused ct_law_refused, f_Counts_only := f_Counts_only, fd_Counts_only := PySem.W.fnOf "only" "Counts.only" (defArgs s_Counts_only) (defBody s_Counts_only) (defScope s_Counts_only) .none kV_Counts_only dc_Counts_only pm_Counts_only an_Counts_only cd_Counts_only ct_Counts_only, f_Counts___rmul__ := f_Counts___rmul__, fd_Counts___rmul__ := PySem.W.fnOf "__rmul__" "Counts.__rmul__" (defArgs s_Counts___rmul__) (defBody s_Counts___rmul__) (defScope s_Counts___rmul__) .none kV_Counts___rmul__ dc_Counts___rmul__ pm_Counts___rmul__ an_Counts___rmul__ cd_Counts___rmul__ ct_Counts___rmul__, f_Counts___add__ := f_Counts___add__, fd_Counts___add__ := PySem.W.fnOf "__add__" "Counts.__add__" (defArgs s_Counts___add__) (defBody s_Counts___add__) (defScope s_Counts___add__) .none kV_Counts___add__ dc_Counts___add__ pm_Counts___add__ an_Counts___add__ cd_Counts___add__ ct_Counts___add__, f_Counts___eq__ := f_Counts___eq__, fd_Counts___eq__ := PySem.W.fnOf "__eq__" "Counts.__eq__" (defArgs s_Counts___eq__) (defBody s_Counts___eq__) (defScope s_Counts___eq__) .none kV_Counts___eq__ dc_Counts___eq__ pm_Counts___eq__ an_Counts___eq__ cd_Counts___eq__ ct_Counts___eq__, f_law := fa, fd_law := PySem.W.fnOf "law" "law" (defArgs s_law) (defBody s_law) (defScope s_law) .none kV_law dc_law pm_law an_law cd_law ct_law, c_Counts := c_Counts, c_BadWord := c_BadWord, c_BadNumber := c_BadNumber, c_NoDivisor := c_NoDivisor, c_CountsheldError := c_CountsheldError, p_Counts_of := p_Counts_of } :=
    { vm_BadWord := PySem.W.mg_of X G vm_BadWord,
      ox_BadWord := ⟨⟨_, _, _, _, _, _, _, _, _, _, _, _, _, _, _, xl_BadWord, xr_BadWord⟩, xs_BadWord, xb_BadWord, xt_BadWord, xk_BadWord⟩,
      oi_BadWord := a_BadWord___init__,
      ot_BadWord := xi_BadWord,
      xn_BadWord_word := xn_BadWord_word,
      te_BadWord_NoDivisor := exm_pair xb_NoDivisor tc_NoDivisor xt_NoDivisor ts_BadWord_NoDivisor,
      vm_BadNumber := PySem.W.mg_of X G vm_BadNumber,
      ox_BadNumber := ⟨⟨_, _, _, _, _, _, _, _, _, _, _, _, _, _, _, xl_BadNumber, xr_BadNumber⟩, xs_BadNumber, xb_BadNumber, xt_BadNumber, xk_BadNumber⟩,
      oi_BadNumber := a_BadNumber___init__,
      ot_BadNumber := xi_BadNumber,
      xn_BadNumber_number := xn_BadNumber_number,
      te_BadNumber_NoDivisor := exm_pair xb_NoDivisor tc_NoDivisor xt_NoDivisor ts_BadNumber_NoDivisor,
      vm_NoDivisor := PySem.W.mg_of X G vm_NoDivisor,
      ob_NoDivisor := ⟨⟨_, _, _, _, PySem.F.excBase_ZeroDivisionError, pass_ZD, by decide +kernel, _, _, _, _, _, _, _, _, _, _, _, _, _, _, xl_NoDivisor⟩, xs_NoDivisor, xb_NoDivisor, xt_NoDivisor, xk_NoDivisor⟩,
      oi_NoDivisor := a_NoDivisor___init__,
      ot_NoDivisor := xi_NoDivisor,
      xn_NoDivisor_word := xn_NoDivisor_word,
      te_NoDivisor_NoDivisor := exm_pair xb_NoDivisor tc_NoDivisor xt_NoDivisor ts_NoDivisor_NoDivisor,
      xf_NoDivisor := ⟨xg_NoDivisor, xh_NoDivisor, xb_NoDivisor, xd_NoDivisor⟩,
      xc_NoDivisor := ⟨xg_NoDivisor, xh_NoDivisor, xb_NoDivisor, xd_NoDivisor, xa_NoDivisor, xcn, xct, xm_NoDivisor⟩,
      vm_CountsheldError := PySem.W.mg_of X G vm_CountsheldError,
      kit_NoDivisor_CountsheldError := kt_NoDivisor_CountsheldError,
      kit_NoDivisor_ZeroDivisionError := kt_NoDivisor_ZeroDivisionError,
      F_law_source := fun_mk (st := s_law_source) l_law_source cd2_law_source kp_law_source,
      m_law_source := PySem.W.mg_of X G a_law_source,
      k_law_source := kp_law_source,
      b_law_source := (fun_mk (st := s_law_source) l_law_source cd2_law_source kp_law_source).binds (ps := ["script"]) fun _ _ _ _ _ _ us hl => match us, hl with | [_], _ => rfl,
      F_law_mixed := fun_mk (st := s_law_mixed) l_law_mixed cd2_law_mixed kp_law_mixed,
      m_law_mixed := PySem.W.mg_of X G a_law_mixed,
      k_law_mixed := kp_law_mixed,
      b_law_mixed := (fun_mk (st := s_law_mixed) l_law_mixed cd2_law_mixed kp_law_mixed).binds (ps := ["cell", "count"]) fun _ _ _ _ _ _ us hl => match us, hl with | [_, _], _ => rfl,
      F_law_draw := fun_mk (st := s_law_draw) l_law_draw cd2_law_draw kp_law_draw,
      m_law_draw := PySem.W.mg_of X G a_law_draw,
      k_law_draw := kp_law_draw,
      b_law_draw := (fun_mk (st := s_law_draw) l_law_draw cd2_law_draw kp_law_draw).binds (ps := ["source", "size"]) fun _ _ _ _ _ _ us hl => match us, hl with | [_, _], _ => rfl,
      F_law_word := fun_mk (st := s_law_word) l_law_word cd2_law_word kp_law_word,
      m_law_word := PySem.W.mg_of X G a_law_word,
      k_law_word := kp_law_word,
      b_law_word := (fun_mk (st := s_law_word) l_law_word cd2_law_word kp_law_word).binds (ps := ["source"]) fun _ _ _ _ _ _ us hl => match us, hl with | [_], _ => rfl,
      F_law_number := fun_mk (st := s_law_number) l_law_number cd2_law_number kp_law_number,
      m_law_number := PySem.W.mg_of X G a_law_number,
      k_law_number := kp_law_number,
      b_law_number := (fun_mk (st := s_law_number) l_law_number cd2_law_number kp_law_number).binds (ps := ["source"]) fun _ _ _ _ _ _ us hl => match us, hl with | [_], _ => rfl,
      F_law_pairs := fun_mk (st := s_law_pairs) l_law_pairs cd2_law_pairs kp_law_pairs,
      m_law_pairs := PySem.W.mg_of X G a_law_pairs,
      k_law_pairs := kp_law_pairs,
      b_law_pairs := (fun_mk (st := s_law_pairs) l_law_pairs cd2_law_pairs kp_law_pairs).binds (ps := ["source", "most"]) fun _ _ _ _ _ _ us hl => match us, hl with | [_, _], _ => rfl,
      F_law_model := fun_mk (st := s_law_model) l_law_model cd2_law_model kp_law_model,
      m_law_model := PySem.W.mg_of X G a_law_model,
      k_law_model := kp_law_model,
      b_law_model := (fun_mk (st := s_law_model) l_law_model cd2_law_model kp_law_model).binds (ps := ["pairs"]) fun _ _ _ _ _ _ us hl => match us, hl with | [_], _ => rfl,
      F_law_divisor := fun_mk (st := s_law_divisor) l_law_divisor cd2_law_divisor kp_law_divisor,
      m_law_divisor := PySem.W.mg_of X G a_law_divisor,
      k_law_divisor := kp_law_divisor,
      b_law_divisor := (fun_mk (st := s_law_divisor) l_law_divisor cd2_law_divisor kp_law_divisor).binds (ps := ["source", "pairs"]) fun _ _ _ _ _ _ us hl => match us, hl with | [_, _], _ => rfl,
      F_is_word := fun_mk (st := s_is_word) l_is_word cd2_is_word kp_is_word,
      m_is_word := PySem.W.mg_of X G a_is_word,
      k_is_word := kp_is_word,
      b_is_word := (fun_mk (st := s_is_word) l_is_word cd2_is_word kp_is_word).binds (ps := ["value"]) fun _ _ _ _ _ _ us hl => match us, hl with | [_], _ => rfl,
      F_BadWord___init__ := fun_mk (st := s_BadWord___init__) l_BadWord___init__ cd2_BadWord___init__ kp_BadWord___init__,
      b_BadWord___init__ := (fun_mk (st := s_BadWord___init__) l_BadWord___init__ cd2_BadWord___init__ kp_BadWord___init__).binds (ps := ["self", "word"]) fun _ _ _ _ _ _ us hl => match us, hl with | [_, _], _ => rfl,
      F_check_word := fun_mk (st := s_check_word) l_check_word cd2_check_word kp_check_word,
      m_check_word := PySem.W.mg_of X G a_check_word,
      k_check_word := kp_check_word,
      b_check_word := (fun_mk (st := s_check_word) l_check_word cd2_check_word kp_check_word).binds (ps := ["word"]) fun _ _ _ _ _ _ us hl => match us, hl with | [_], _ => rfl,
      F_is_number := fun_mk (st := s_is_number) l_is_number cd2_is_number kp_is_number,
      m_is_number := PySem.W.mg_of X G a_is_number,
      k_is_number := kp_is_number,
      b_is_number := (fun_mk (st := s_is_number) l_is_number cd2_is_number kp_is_number).binds (ps := ["value"]) fun _ _ _ _ _ _ us hl => match us, hl with | [_], _ => rfl,
      F_is_short := fun_mk (st := s_is_short) l_is_short cd2_is_short kp_is_short,
      m_is_short := PySem.W.mg_of X G a_is_short,
      k_is_short := kp_is_short,
      b_is_short := (fun_mk (st := s_is_short) l_is_short cd2_is_short kp_is_short).binds (ps := ["value"]) fun _ _ _ _ _ _ us hl => match us, hl with | [_], _ => rfl,
      F_BadNumber___init__ := fun_mk (st := s_BadNumber___init__) l_BadNumber___init__ cd2_BadNumber___init__ kp_BadNumber___init__,
      b_BadNumber___init__ := (fun_mk (st := s_BadNumber___init__) l_BadNumber___init__ cd2_BadNumber___init__ kp_BadNumber___init__).binds (ps := ["self", "number"]) fun _ _ _ _ _ _ us hl => match us, hl with | [_, _], _ => rfl,
      F_check_number := fun_mk (st := s_check_number) l_check_number cd2_check_number kp_check_number,
      m_check_number := PySem.W.mg_of X G a_check_number,
      k_check_number := kp_check_number,
      b_check_number := (fun_mk (st := s_check_number) l_check_number cd2_check_number kp_check_number).binds (ps := ["number"]) fun _ _ _ _ _ _ us hl => match us, hl with | [_], _ => rfl,
      F_Counts___init__ := fun_mk (st := s_Counts___init__) l_Counts___init__ cd2_Counts___init__ kp_Counts___init__,
      F_counts_of := fun_mk (st := s_counts_of) l_counts_of cd2_counts_of kp_counts_of,
      m_counts_of := PySem.W.mg_of X G a_counts_of,
      k_counts_of := kp_counts_of,
      b_counts_of := (fun_mk (st := s_counts_of) l_counts_of cd2_counts_of kp_counts_of).binds (ps := ["pairs"]) fun _ _ _ _ _ _ us hl => match us, hl with | [_], _ => rfl,
      F_is_pair := fun_mk (st := s_is_pair) l_is_pair cd2_is_pair kp_is_pair,
      m_is_pair := PySem.W.mg_of X G a_is_pair,
      k_is_pair := kp_is_pair,
      b_is_pair := (fun_mk (st := s_is_pair) l_is_pair cd2_is_pair kp_is_pair).binds (ps := ["value"]) fun _ _ _ _ _ _ us hl => match us, hl with | [_], _ => rfl,
      cm_Counts_of := ⟨cm_Counts_of, ⟨_, rc_Counts_of⟩, fi_Counts_of⟩,
      F_Counts_of := fun_mk (st := s_Counts_of) l_Counts_of cd2_Counts_of kp_Counts_of,
      b_Counts_of := (fun_mk (st := s_Counts_of) l_Counts_of cd2_Counts_of kp_Counts_of).binds (ps := ["cls", "pairs"]) fun _ _ _ _ _ _ us hl => match us, hl with | [_, _], _ => rfl,
      F_law_told := fun_mk (st := s_law_told) l_law_told cd2_law_told kp_law_told,
      m_law_told := PySem.W.mg_of X G a_law_told,
      k_law_told := kp_law_told,
      b_law_told := (fun_mk (st := s_law_told) l_law_told cd2_law_told kp_law_told).binds (ps := ["model"]) fun _ _ _ _ _ _ us hl => match us, hl with | [_], _ => rfl,
      F_Counts_words := fun_mk (st := s_Counts_words) l_Counts_words cd2_Counts_words kp_Counts_words,
      mt_Counts_words := ⟨a_Counts_words, fn_Counts_words, kp_Counts_words⟩,
      b_Counts_words := (fun_mk (st := s_Counts_words) l_Counts_words cd2_Counts_words kp_Counts_words).binds (ps := ["self"]) fun _ _ _ _ _ _ us hl => match us, hl with | [_], _ => rfl,
      F_Counts_pairs := fun_mk (st := s_Counts_pairs) l_Counts_pairs cd2_Counts_pairs kp_Counts_pairs,
      mt_Counts_pairs := ⟨a_Counts_pairs, fn_Counts_pairs, kp_Counts_pairs⟩,
      b_Counts_pairs := (fun_mk (st := s_Counts_pairs) l_Counts_pairs cd2_Counts_pairs kp_Counts_pairs).binds (ps := ["self"]) fun _ _ _ _ _ _ us hl => match us, hl with | [_], _ => rfl,
      F_NoDivisor___init__ := fun_mk (st := s_NoDivisor___init__) l_NoDivisor___init__ cd2_NoDivisor___init__ kp_NoDivisor___init__,
      b_NoDivisor___init__ := (fun_mk (st := s_NoDivisor___init__) l_NoDivisor___init__ cd2_NoDivisor___init__ kp_NoDivisor___init__).binds (ps := ["self", "word"]) fun _ _ _ _ _ _ us hl => match us, hl with | [_, _], _ => rfl,
      F_Counts___bool__ := fun_mk (st := s_Counts___bool__) l_Counts___bool__ cd2_Counts___bool__ kp_Counts___bool__,
      mt_Counts___bool__ := ⟨a_Counts___bool__, fn_Counts___bool__, kp_Counts___bool__⟩,
      b_Counts___bool__ := (fun_mk (st := s_Counts___bool__) l_Counts___bool__ cd2_Counts___bool__ kp_Counts___bool__).binds (ps := ["self"]) fun _ _ _ _ _ _ us hl => match us, hl with | [_], _ => rfl,
      F_check_divisor := fun_mk (st := s_check_divisor) l_check_divisor cd2_check_divisor kp_check_divisor,
      m_check_divisor := PySem.W.mg_of X G a_check_divisor,
      k_check_divisor := kp_check_divisor,
      b_check_divisor := (fun_mk (st := s_check_divisor) l_check_divisor cd2_check_divisor kp_check_divisor).binds (ps := ["counts"]) fun _ _ _ _ _ _ us hl => match us, hl with | [_], _ => rfl,
      F_law_due := fun_mk (st := s_law_due) l_law_due cd2_law_due kp_law_due,
      m_law_due := PySem.W.mg_of X G a_law_due,
      k_law_due := kp_law_due,
      b_law_due := (fun_mk (st := s_law_due) l_law_due cd2_law_due kp_law_due).binds (ps := ["divisor"]) fun _ _ _ _ _ _ us hl => match us, hl with | [_], _ => rfl,
      F_law_fits := fun_mk (st := s_law_fits) l_law_fits cd2_law_fits kp_law_fits,
      m_law_fits := PySem.W.mg_of X G a_law_fits,
      k_law_fits := kp_law_fits,
      b_law_fits := (fun_mk (st := s_law_fits) l_law_fits cd2_law_fits kp_law_fits).binds (ps := ["times", "model", "divisor"]) fun _ _ _ _ _ _ us hl => match us, hl with | [_, _, _], _ => rfl,
      F_law_is_integer := fun_mk (st := s_law_is_integer) l_law_is_integer cd2_law_is_integer kp_law_is_integer,
      m_law_is_integer := PySem.W.mg_of X G a_law_is_integer,
      k_law_is_integer := kp_law_is_integer,
      b_law_is_integer := (fun_mk (st := s_law_is_integer) l_law_is_integer cd2_law_is_integer kp_law_is_integer).binds (ps := ["thing"]) fun _ _ _ _ _ _ us hl => match us, hl with | [_], _ => rfl,
      F_law_equal := fun_mk (st := s_law_equal) l_law_equal cd2_law_equal kp_law_equal,
      m_law_equal := PySem.W.mg_of X G a_law_equal,
      k_law_equal := kp_law_equal,
      b_law_equal := (fun_mk (st := s_law_equal) l_law_equal cd2_law_equal kp_law_equal).binds (ps := ["counts", "model"]) fun _ _ _ _ _ _ us hl => match us, hl with | [_, _], _ => rfl,
      F_beside := fun_mk (st := s_beside) l_beside cd2_beside kp_beside,
      m_beside := PySem.W.mg_of X G a_beside,
      k_beside := kp_beside,
      b_beside := (fun_mk (st := s_beside) l_beside cd2_beside kp_beside).binds (ps := ["one", "other"]) fun _ _ _ _ _ _ us hl => match us, hl with | [_, _], _ => rfl,
      F_Counts___floordiv__ := fun_mk (st := s_Counts___floordiv__) l_Counts___floordiv__ cd2_Counts___floordiv__ kp_Counts___floordiv__,
      mt_Counts___floordiv__ := ⟨a_Counts___floordiv__, fn_Counts___floordiv__, kp_Counts___floordiv__⟩,
      b_Counts___floordiv__ := (fun_mk (st := s_Counts___floordiv__) l_Counts___floordiv__ cd2_Counts___floordiv__ kp_Counts___floordiv__).binds (ps := ["self", "other"]) fun _ _ _ _ _ _ us hl => match us, hl with | [_, _], _ => rfl,
      F_Counts___mul__ := fun_mk (st := s_Counts___mul__) l_Counts___mul__ cd2_Counts___mul__ kp_Counts___mul__,
      mt_Counts___mul__ := ⟨a_Counts___mul__, fn_Counts___mul__, kp_Counts___mul__⟩,
      b_Counts___mul__ := (fun_mk (st := s_Counts___mul__) l_Counts___mul__ cd2_Counts___mul__ kp_Counts___mul__).binds (ps := ["self", "other"]) fun _ _ _ _ _ _ us hl => match us, hl with | [_, _], _ => rfl,
      F_Counts___sub__ := fun_mk (st := s_Counts___sub__) l_Counts___sub__ cd2_Counts___sub__ kp_Counts___sub__,
      mt_Counts___sub__ := ⟨a_Counts___sub__, fn_Counts___sub__, kp_Counts___sub__⟩,
      b_Counts___sub__ := (fun_mk (st := s_Counts___sub__) l_Counts___sub__ cd2_Counts___sub__ kp_Counts___sub__).binds (ps := ["self", "other"]) fun _ _ _ _ _ _ us hl => match us, hl with | [_, _], _ => rfl,
      F_Counts___mod__ := fun_mk (st := s_Counts___mod__) l_Counts___mod__ cd2_Counts___mod__ kp_Counts___mod__,
      mt_Counts___mod__ := ⟨a_Counts___mod__, fn_Counts___mod__, kp_Counts___mod__⟩,
      b_Counts___mod__ := (fun_mk (st := s_Counts___mod__) l_Counts___mod__ cd2_Counts___mod__ kp_Counts___mod__).binds (ps := ["self", "other"]) fun _ _ _ _ _ _ us hl => match us, hl with | [_, _], _ => rfl,
      F_law_refused := fun_mk (st := s_law_refused) l_law_refused cd2_law_refused kp_law_refused,
      m_law_refused := PySem.W.mg_of X G a_law_refused,
      k_law_refused := kp_law_refused,
      b_law_refused := (fun_mk (st := s_law_refused) l_law_refused cd2_law_refused kp_law_refused).binds (ps := ["counts", "divisor", "word"]) fun _ _ _ _ _ _ us hl => match us, hl with | [_, _, _], _ => rfl,
      F_Counts_only := fun_mk (st := s_Counts_only) l_Counts_only cd2_Counts_only kp_Counts_only,
      mt_Counts_only := ⟨a_Counts_only, fn_Counts_only, kp_Counts_only⟩,
      F_Counts___rmul__ := fun_mk (st := s_Counts___rmul__) l_Counts___rmul__ cd2_Counts___rmul__ kp_Counts___rmul__,
      mt_Counts___rmul__ := ⟨a_Counts___rmul__, fn_Counts___rmul__, kp_Counts___rmul__⟩,
      b_Counts___rmul__ := (fun_mk (st := s_Counts___rmul__) l_Counts___rmul__ cd2_Counts___rmul__ kp_Counts___rmul__).binds (ps := ["self", "other"]) fun _ _ _ _ _ _ us hl => match us, hl with | [_, _], _ => rfl,
      F_Counts___add__ := fun_mk (st := s_Counts___add__) l_Counts___add__ cd2_Counts___add__ kp_Counts___add__,
      mt_Counts___add__ := ⟨a_Counts___add__, fn_Counts___add__, kp_Counts___add__⟩,
      b_Counts___add__ := (fun_mk (st := s_Counts___add__) l_Counts___add__ cd2_Counts___add__ kp_Counts___add__).binds (ps := ["self", "other"]) fun _ _ _ _ _ _ us hl => match us, hl with | [_, _], _ => rfl,
      F_Counts___eq__ := fun_mk (st := s_Counts___eq__) l_Counts___eq__ cd2_Counts___eq__ kp_Counts___eq__,
      mt_Counts___eq__ := ⟨a_Counts___eq__, fn_Counts___eq__, kp_Counts___eq__⟩,
      b_Counts___eq__ := (fun_mk (st := s_Counts___eq__) l_Counts___eq__ cd2_Counts___eq__ kp_Counts___eq__).binds (ps := ["self", "other"]) fun _ _ _ _ _ _ us hl => match us, hl with | [_, _], _ => rfl,
      F_law := fun_mk (st := s_law) l_law cd2_law kp_law,
      m_law := PySem.W.mg_of X G a_law,
      k_law := kp_law,
      b_law := (fun_mk (st := s_law) l_law cd2_law kp_law).binds (ps := ["script"]) fun _ _ _ _ _ _ us hl => match us, hl with | [_], _ => rfl,
      n_ZeroDivisionError := PySem.W.mg_none_of X G z_ZeroDivisionError,
      n_abs := PySem.W.mg_none_of X G z_abs,
      n_all := PySem.W.mg_none_of X G z_all,
      n_bool := PySem.W.mg_none_of X G z_bool,
      n_enumerate := PySem.W.mg_none_of X G z_enumerate,
      n_int := PySem.W.mg_none_of X G z_int,
      n_isinstance := PySem.W.mg_none_of X G z_isinstance,
      n_len := PySem.W.mg_none_of X G z_len,
      n_list := PySem.W.mg_none_of X G z_list,
      n_min := PySem.W.mg_none_of X G z_min,
      n_range := PySem.W.mg_none_of X G z_range,
      n_sorted := PySem.W.mg_none_of X G z_sorted,
      n_str := PySem.W.mg_none_of X G z_str,
      n_tuple := PySem.W.mg_none_of X G z_tuple,
      vm_Counts := PySem.W.mg_of X G vm_Counts,
      kl_Counts := ⟨⟨pg_Counts, hd_Counts, po_Counts, sa_Counts⟩, by intro f hf; simp only [List.mem_cons, List.not_mem_nil, or_false] at hf; rcases hf with rfl <;> assumption⟩,
      ns_Counts := ns_Counts,
      sf_Counts := sf_Counts,
      nf_Counts := nf_Counts,
      ne_Counts := ne_Counts,
      mo_Counts := im_Counts,
      mi_Counts := ⟨⟨_, mrr_Counts, .inr ⟨_, rfl⟩⟩, ⟨_, mff_Counts⟩, ⟨_, mfg_Counts⟩, msu_Counts, mus_Counts⟩,
      ki_Counts := ⟨ia_Counts, ihn, iht, im_Counts⟩,
      mk_Counts := ⟨mk_Counts, a_Counts___init__, fn_Counts, kc_Counts⟩,
      r_Counts := ⟨rd_Counts, ga_Counts⟩,
      u_Counts___init__ := u_Counts___init__,
      kp_Counts___init__ := kp_Counts___init__,
      kit_Counts_Counts := kit_Counts_Counts,
      e_LETTERS := ⟨_, PySem.W.mg_of X G ec_LETTERS, er_LETTERS⟩,
      e_BEYOND := ⟨_, PySem.W.mg_of X G ec_BEYOND, er_BEYOND⟩ }
  exact ⟨PySem.W.fnOf "law" "law" (defArgs s_law) (defBody s_law) (defScope s_law) .none kV_law dc_law pm_law an_law cd_law ct_law, fun s v => .of_eq rfl, fun base _ _ => ok_law T⟩
theorem walk {l : PySem.W.OpenLaw} {q : Program} {loose : List Str} {XP : (Str → Option Value) → Heap → Prop} {YP : World → Heap → Prop} {d : DefRec} {K : Params → PySem.W.Frag} (hn : l.most = some 63) (hdf : d.params.defaults = [])
    (hY : ∀ (w : World) (h : Heap), YP w h → (K w.params).In h)
    (F : ∀ (w : World) (mg : Str → Option Value) (fa : Addr) (h : Heap), (K w.params).In h → h.Ns mainGlobals mg → mg d.name = some (.ref fa) →
      ∃ fd : FuncData, (∀ (s : Shared) (u : Value), BindsTo s fd ⟨[u], []⟩ [("script", u)]) ∧ ∀ base : Heap, (K w.params).In base → base.Ns mainGlobals mg → FnOk l.prog w (K w.params) mg base CX0 12 fa fd ["script"] (sp_law (K w.params))) :
    PySem.W.WalkO q loose XP YP l.row.toRowW d [] (fun f vs => PySem.call f vs) :=
  L2.walk_of (n := 63) (k := 12) (x := "script") (CX := fun _ => CX0) (sp := fun w => sp_law (K w.params)) hn (by decide) hdf ⟨rfl, by decide, by decide⟩ hY F (fun _ _ a ns hl _ hS => ⟨a, ns, rfl, hS, hl, fun _ => rfl⟩) fun _ _ _ _ _ z => z
end Y
open PySem PySem.W PyProof.Rows
set_option maxRecDepth 100000 in
set_option maxHeartbeats 0 in
theorem PySem.Challenge.cw_countsheld_k08_counts_divided_holds : PySem.Challenge.rw_countsheld_k08_counts_divided.Holds := by
  w_on; o_law; k_head; (case hw => w_witness2)
  k_fill
  refine Y.walk (l := PySem.Challenge.rw_countsheld_k08_counts_divided) rfl rfl (fun w h Y => PySem.W.kIn_of Y) ?F
  case F =>
    intro w mg fa h KX G hmg
    refine' Y.all_mk KX G hmg ?a_law_source ?a_law_mixed ?a_law_draw ?a_law_word ?a_law_number ?a_law_pairs ?a_law_model ?a_law_divisor ?a_is_word ?a_check_word ?a_is_number ?a_is_short ?a_check_number ?a_counts_of ?a_is_pair ?a_law_told ?a_check_divisor ?a_law_due ?a_law_fits ?a_law_is_integer ?a_law_equal ?a_beside ?a_law_refused ?a_law ?vm_Counts ?vm_BadWord ?vm_BadNumber ?vm_NoDivisor ?l_law_source ?cd2_law_source ?kp_law_source ?l_law_mixed ?cd2_law_mixed ?kp_law_mixed ?l_law_draw ?cd2_law_draw ?kp_law_draw ?l_law_word ?cd2_law_word ?kp_law_word ?l_law_number ?cd2_law_number ?kp_law_number ?l_law_pairs ?cd2_law_pairs ?kp_law_pairs ?l_law_model ?cd2_law_model ?kp_law_model ?l_law_divisor ?cd2_law_divisor ?kp_law_divisor ?l_is_word ?cd2_is_word ?kp_is_word ?a_BadWord___init__ ?l_BadWord___init__ ?cd2_BadWord___init__ ?kp_BadWord___init__ ?l_check_word ?cd2_check_word ?kp_check_word ?l_is_number ?cd2_is_number ?kp_is_number ?l_is_short ?cd2_is_short ?kp_is_short ?a_BadNumber___init__ ?l_BadNumber___init__ ?cd2_BadNumber___init__ ?kp_BadNumber___init__ ?l_check_number ?cd2_check_number ?kp_check_number ?a_Counts___init__ ?l_Counts___init__ ?cd2_Counts___init__ ?kp_Counts___init__ ?l_counts_of ?cd2_counts_of ?kp_counts_of ?l_is_pair ?cd2_is_pair ?kp_is_pair ?cm_Counts_of ?rc_Counts_of ?fi_Counts_of ?l_Counts_of ?cd2_Counts_of ?kp_Counts_of ?l_law_told ?cd2_law_told ?kp_law_told ?a_Counts_words ?l_Counts_words ?cd2_Counts_words ?kp_Counts_words ?fn_Counts_words ?a_Counts_pairs ?l_Counts_pairs ?cd2_Counts_pairs ?kp_Counts_pairs ?fn_Counts_pairs ?a_NoDivisor___init__ ?l_NoDivisor___init__ ?cd2_NoDivisor___init__ ?kp_NoDivisor___init__ ?a_Counts___bool__ ?l_Counts___bool__ ?cd2_Counts___bool__ ?kp_Counts___bool__ ?fn_Counts___bool__ ?l_check_divisor ?cd2_check_divisor ?kp_check_divisor ?l_law_due ?cd2_law_due ?kp_law_due ?l_law_fits ?cd2_law_fits ?kp_law_fits ?l_law_is_integer ?cd2_law_is_integer ?kp_law_is_integer ?l_law_equal ?cd2_law_equal ?kp_law_equal ?l_beside ?cd2_beside ?kp_beside ?a_Counts___floordiv__ ?l_Counts___floordiv__ ?cd2_Counts___floordiv__ ?kp_Counts___floordiv__ ?fn_Counts___floordiv__ ?a_Counts___mul__ ?l_Counts___mul__ ?cd2_Counts___mul__ ?kp_Counts___mul__ ?fn_Counts___mul__ ?a_Counts___sub__ ?l_Counts___sub__ ?cd2_Counts___sub__ ?kp_Counts___sub__ ?fn_Counts___sub__ ?a_Counts___mod__ ?l_Counts___mod__ ?cd2_Counts___mod__ ?kp_Counts___mod__ ?fn_Counts___mod__ ?l_law_refused ?cd2_law_refused ?kp_law_refused ?a_Counts_only ?l_Counts_only ?cd2_Counts_only ?kp_Counts_only ?fn_Counts_only ?a_Counts___rmul__ ?l_Counts___rmul__ ?cd2_Counts___rmul__ ?kp_Counts___rmul__ ?fn_Counts___rmul__ ?a_Counts___add__ ?l_Counts___add__ ?cd2_Counts___add__ ?kp_Counts___add__ ?fn_Counts___add__ ?a_Counts___eq__ ?l_Counts___eq__ ?cd2_Counts___eq__ ?kp_Counts___eq__ ?fn_Counts___eq__ ?l_law ?cd2_law ?kp_law ?z_ZeroDivisionError ?z_abs ?z_all ?z_bool ?z_enumerate ?z_int ?z_isinstance ?z_len ?z_list ?z_min ?z_range ?z_sorted ?z_str ?z_tuple ?pg_Counts ?hd_Counts ?po_Counts ?sa_Counts ?ia_Counts ?im_Counts ?na_Counts__numbers ?ns_Counts ?sf_Counts ?nf_Counts ?ne_Counts ?mrr_Counts ?mff_Counts ?mfg_Counts ?msu_Counts ?mus_Counts ?mk_Counts ?fn_Counts ?kc_Counts ?rd_Counts ?ga_Counts ?u_Counts___init__ ?ihn ?iht ?kit_Counts_Counts ?ec_LETTERS ?er_LETTERS ?ec_BEYOND ?er_BEYOND ?xl_BadWord ?xr_BadWord ?xs_BadWord ?xb_BadWord ?xt_BadWord ?xk_BadWord ?xi_BadWord ?xn_BadWord_word ?ts_BadWord_NoDivisor ?tc_NoDivisor ?xl_BadNumber ?xr_BadNumber ?xs_BadNumber ?xb_BadNumber ?xt_BadNumber ?xk_BadNumber ?xi_BadNumber ?xn_BadNumber_number ?ts_BadNumber_NoDivisor ?xl_NoDivisor ?xs_NoDivisor ?xb_NoDivisor ?xt_NoDivisor ?xk_NoDivisor ?xi_NoDivisor ?xn_NoDivisor_word ?ts_NoDivisor_NoDivisor ?xg_NoDivisor ?xh_NoDivisor ?xd_NoDivisor ?xa_NoDivisor ?xm_NoDivisor ?xcn ?xct ?vm_CountsheldError ?kt_NoDivisor_CountsheldError ?kt_NoDivisor_ZeroDivisionError
    (case a_law_source => k_is)
    (case a_law_mixed => k_is)
    (case a_law_draw => k_is)
    (case a_law_word => k_is)
    (case a_law_number => k_is)
    (case a_law_pairs => k_is)
    (case a_law_model => k_is)
    (case a_law_divisor => k_is)
    (case a_is_word => k_is)
    (case a_check_word => k_is)
    (case a_is_number => k_is)
    (case a_is_short => k_is)
    (case a_check_number => k_is)
    (case a_counts_of => k_is)
    (case a_is_pair => k_is)
    (case a_law_told => k_is)
    (case a_check_divisor => k_is)
    (case a_law_due => k_is)
    (case a_law_fits => k_is)
    (case a_law_is_integer => k_is)
    (case a_law_equal => k_is)
    (case a_beside => k_is)
    (case a_law_refused => k_is)
    (case a_law => k_is)
    (case vm_Counts => k_is)
    (case vm_BadWord => k_is)
    (case vm_BadNumber => k_is)
    (case vm_NoDivisor => k_is)
    (case l_law_source => k_is)
    (case cd2_law_source => k_is)
    (case kp_law_source => k_is)
    (case l_law_mixed => k_is)
    (case cd2_law_mixed => k_is)
    (case kp_law_mixed => k_is)
    (case l_law_draw => k_is)
    (case cd2_law_draw => k_is)
    (case kp_law_draw => k_is)
    (case l_law_word => k_is)
    (case cd2_law_word => k_is)
    (case kp_law_word => k_is)
    (case l_law_number => k_is)
    (case cd2_law_number => k_is)
    (case kp_law_number => k_is)
    (case l_law_pairs => k_is)
    (case cd2_law_pairs => k_is)
    (case kp_law_pairs => k_is)
    (case l_law_model => k_is)
    (case cd2_law_model => k_is)
    (case kp_law_model => k_is)
    (case l_law_divisor => k_is)
    (case cd2_law_divisor => k_is)
    (case kp_law_divisor => k_is)
    (case l_is_word => k_is)
    (case cd2_is_word => k_is)
    (case kp_is_word => k_is)
    (case a_BadWord___init__ => k_is)
    (case l_BadWord___init__ => k_is)
    (case cd2_BadWord___init__ => k_is)
    (case kp_BadWord___init__ => k_is)
    (case l_check_word => k_is)
    (case cd2_check_word => k_is)
    (case kp_check_word => k_is)
    (case l_is_number => k_is)
    (case cd2_is_number => k_is)
    (case kp_is_number => k_is)
    (case l_is_short => k_is)
    (case cd2_is_short => k_is)
    (case kp_is_short => k_is)
    (case a_BadNumber___init__ => k_is)
    (case l_BadNumber___init__ => k_is)
    (case cd2_BadNumber___init__ => k_is)
    (case kp_BadNumber___init__ => k_is)
    (case l_check_number => k_is)
    (case cd2_check_number => k_is)
    (case kp_check_number => k_is)
    (case a_Counts___init__ => k_is)
    (case l_Counts___init__ => k_is)
    (case cd2_Counts___init__ => k_is)
    (case kp_Counts___init__ => k_is)
    (case l_counts_of => k_is)
    (case cd2_counts_of => k_is)
    (case kp_counts_of => k_is)
    (case l_is_pair => k_is)
    (case cd2_is_pair => k_is)
    (case kp_is_pair => k_is)
    (case cm_Counts_of => k_is)
    (case rc_Counts_of => k_is)
    (case fi_Counts_of => k_is)
    (case l_Counts_of => k_is)
    (case cd2_Counts_of => k_is)
    (case kp_Counts_of => k_is)
    (case l_law_told => k_is)
    (case cd2_law_told => k_is)
    (case kp_law_told => k_is)
    (case a_Counts_words => k_is)
    (case l_Counts_words => k_is)
    (case cd2_Counts_words => k_is)
    (case kp_Counts_words => k_is)
    (case fn_Counts_words => k_is)
    (case a_Counts_pairs => k_is)
    (case l_Counts_pairs => k_is)
    (case cd2_Counts_pairs => k_is)
    (case kp_Counts_pairs => k_is)
    (case fn_Counts_pairs => k_is)
    (case a_NoDivisor___init__ => k_is)
    (case l_NoDivisor___init__ => k_is)
    (case cd2_NoDivisor___init__ => k_is)
    (case kp_NoDivisor___init__ => k_is)
    (case a_Counts___bool__ => k_is)
    (case l_Counts___bool__ => k_is)
    (case cd2_Counts___bool__ => k_is)
    (case kp_Counts___bool__ => k_is)
    (case fn_Counts___bool__ => k_is)
    (case l_check_divisor => k_is)
    (case cd2_check_divisor => k_is)
    (case kp_check_divisor => k_is)
    (case l_law_due => k_is)
    (case cd2_law_due => k_is)
    (case kp_law_due => k_is)
    (case l_law_fits => k_is)
    (case cd2_law_fits => k_is)
    (case kp_law_fits => k_is)
    (case l_law_is_integer => k_is)
    (case cd2_law_is_integer => k_is)
    (case kp_law_is_integer => k_is)
    (case l_law_equal => k_is)
    (case cd2_law_equal => k_is)
    (case kp_law_equal => k_is)
    (case l_beside => k_is)
    (case cd2_beside => k_is)
    (case kp_beside => k_is)
    (case a_Counts___floordiv__ => k_is)
    (case l_Counts___floordiv__ => k_is)
    (case cd2_Counts___floordiv__ => k_is)
    (case kp_Counts___floordiv__ => k_is)
    (case fn_Counts___floordiv__ => k_is)
    (case a_Counts___mul__ => k_is)
    (case l_Counts___mul__ => k_is)
    (case cd2_Counts___mul__ => k_is)
    (case kp_Counts___mul__ => k_is)
    (case fn_Counts___mul__ => k_is)
    (case a_Counts___sub__ => k_is)
    (case l_Counts___sub__ => k_is)
    (case cd2_Counts___sub__ => k_is)
    (case kp_Counts___sub__ => k_is)
    (case fn_Counts___sub__ => k_is)
    (case a_Counts___mod__ => k_is)
    (case l_Counts___mod__ => k_is)
    (case cd2_Counts___mod__ => k_is)
    (case kp_Counts___mod__ => k_is)
    (case fn_Counts___mod__ => k_is)
    (case l_law_refused => k_is)
    (case cd2_law_refused => k_is)
    (case kp_law_refused => k_is)
    (case a_Counts_only => k_is)
    (case l_Counts_only => k_is)
    (case cd2_Counts_only => k_is)
    (case kp_Counts_only => k_is)
    (case fn_Counts_only => k_is)
    (case a_Counts___rmul__ => k_is)
    (case l_Counts___rmul__ => k_is)
    (case cd2_Counts___rmul__ => k_is)
    (case kp_Counts___rmul__ => k_is)
    (case fn_Counts___rmul__ => k_is)
    (case a_Counts___add__ => k_is)
    (case l_Counts___add__ => k_is)
    (case cd2_Counts___add__ => k_is)
    (case kp_Counts___add__ => k_is)
    (case fn_Counts___add__ => k_is)
    (case a_Counts___eq__ => k_is)
    (case l_Counts___eq__ => k_is)
    (case cd2_Counts___eq__ => k_is)
    (case kp_Counts___eq__ => k_is)
    (case fn_Counts___eq__ => k_is)
    (case l_law => k_is)
    (case cd2_law => k_is)
    (case kp_law => k_is)
    (case z_ZeroDivisionError => k_is)
    (case z_abs => k_is)
    (case z_all => k_is)
    (case z_bool => k_is)
    (case z_enumerate => k_is)
    (case z_int => k_is)
    (case z_isinstance => k_is)
    (case z_len => k_is)
    (case z_list => k_is)
    (case z_min => k_is)
    (case z_range => k_is)
    (case z_sorted => k_is)
    (case z_str => k_is)
    (case z_tuple => k_is)
    (case pg_Counts => k_is)
    (case hd_Counts => k_is)
    (case po_Counts => k_is)
    (case sa_Counts => k_is)
    (case ia_Counts => k_is)
    (case im_Counts => k_is)
    (case na_Counts__numbers => k_is)
    (case ns_Counts => k_is)
    (case sf_Counts => k_is)
    (case nf_Counts => k_is)
    (case ne_Counts => k_is)
    (case mrr_Counts => k_is)
    (case mff_Counts => k_is)
    (case mfg_Counts => k_is)
    (case msu_Counts => k_is)
    (case mus_Counts => k_is)
    (case mk_Counts => k_is)
    (case fn_Counts => k_is)
    (case kc_Counts => k_is)
    (case rd_Counts => k_is)
    (case ga_Counts => k_is)
    (case u_Counts___init__ => k_is)
    (case ihn => k_is)
    (case iht => k_is)
    (case kit_Counts_Counts => kit_is)
    (case ec_LETTERS => k_is)
    (case er_LETTERS => exact ⟨_, rfl⟩)
    (case ec_BEYOND => k_is)
    (case er_BEYOND => exact ⟨_, rfl⟩)
    (case xl_BadWord => k_is)
    (case xr_BadWord => decide +kernel)
    (case xs_BadWord => k_is)
    (case xb_BadWord => k_is)
    (case xt_BadWord => k_is)
    (case xk_BadWord => k_is)
    (case xi_BadWord => k_is)
    (case xn_BadWord_word => k_is)
    (case ts_BadWord_NoDivisor => first | rfl | k_is)
    (case tc_NoDivisor => k_is)
    (case xl_BadNumber => k_is)
    (case xr_BadNumber => decide +kernel)
    (case xs_BadNumber => k_is)
    (case xb_BadNumber => k_is)
    (case xt_BadNumber => k_is)
    (case xk_BadNumber => k_is)
    (case xi_BadNumber => k_is)
    (case xn_BadNumber_number => k_is)
    (case ts_BadNumber_NoDivisor => first | rfl | k_is)
    (case xl_NoDivisor => k_is)
    (case xs_NoDivisor => k_is)
    (case xb_NoDivisor => k_is)
    (case xt_NoDivisor => k_is)
    (case xk_NoDivisor => k_is)
    (case xi_NoDivisor => k_is)
    (case xn_NoDivisor_word => k_is)
    (case ts_NoDivisor_NoDivisor => first | rfl | k_is)
    (case xg_NoDivisor => k_is)
    (case xh_NoDivisor => k_is)
    (case xd_NoDivisor => k_is)
    (case xa_NoDivisor => k_is)
    (case xm_NoDivisor => k_is)
    (case xcn => k_is)
    (case xct => k_is)
    (case vm_CountsheldError => k_is)
    (case kt_NoDivisor_CountsheldError => kit_is)
    (case kt_NoDivisor_ZeroDivisionError => kit_is)
