import PyProof.Rows.All
import Wide.All
import OpenK.AllK
import Wide.FinOn
import HandS.ForMost
import HandS.Wide
import HandS.WideMore
import HandS.IsInst
import HandS.Flow
import HandS.Zip
import HandS.RaiseMore
import KE.GoesEnum
import HandS.ClsMeth
import HandS.Star
import KE.RegKIsAll
import HandS.Replace
import KE.SortKeyHeap
import HandS.SortKw
import HandS.DictComp
import HandS.ListItems
import HandS.SlotsOwn
import HandS.Sort
import HandS.Property
import PyProof.SumAny
import HandS.FStr
import HandS.Text
import HandS.ExcInit
import HandS.ExcField
import HandS.TryOnly
import HandS.WordsExc
import KE.KExcIs
import HandS.ExcIs
import HandS.MakeKwOnly
import PyProof.ListStr
import HandS.Conv
import PyProof.ExcBaseAll.ZeroDivisionError
import PyProof.ExcBaseAll.LookupError
import PyProof.ExcBaseAll.RuntimeError
import KE.GoesMore
import PyProof.StrLawsTight
import PyProof.SliceList
import KE.KStrOpen
import HandS.ExcValue
import PySem.Challenge.RW_countsheld_k33_errors_made
set_option Elab.async false
set_option linter.all false
set_option maxRecDepth 100000
set_option maxHeartbeats 40000000
namespace Y
open PySem L2
/-! assertions about the abstract heap, held side by side -/

/-- tuples stay -/
def Tx (H H' : Hp) : Prop := ∀ b xs, H b = some (.tup xs) → H' b = some (.tup xs)
theorem Tx.refl (H : Hp) : Tx H H := fun _ _ e => e
theorem Tx.trans {H H1 H2 : Hp} (a : Tx H H1) (b : Tx H1 H2) : Tx H H2 := fun x y e => b x y (a x y e)
theorem tx_new {H : Hp} {p : Addr} {o : HO} (h : H p = none) : Tx H (upd H p o) := fun b xs e => by
  rw [upd_ne (ne_of_none e h)]
  exact e
theorem tx_upd {H : Hp} {p : Addr} {o u : HO} (h : H p = some u) (hu : ∀ xs, u ≠ .tup xs) : Tx H (upd H p o) := fun b xs e => by
  rw [upd_ne (fun z => hu xs (by rw [z, h] at e; exact Option.some.inj e))]
  exact e

/-- an assertion: its own addresses, the heap -/
structure Asn where
  h : (Addr → Prop) → Hp → Prop
  al : ∀ f H, h f H → ∀ a, f a → ∃ o, H a = some o
  st : ∀ f H H', h f H → (∀ a, f a → H' a = H a) → Tx H H' → h f H'

inductive SepF : List Asn → (Addr → Prop) → Hp → Prop
  | nil {H} : SepF [] (fun _ => False) H
  | cons {A l f g H} : A.h f H → SepF l g H → (∀ a, f a → ¬ g a) → SepF (A :: l) (fun a => f a ∨ g a) H
def Sep (l : List Asn) (H : Hp) : Prop := ∃ g, SepF l g H

theorem SepF.al {l : List Asn} {g : Addr → Prop} {H : Hp} (S : SepF l g H) : ∀ a, g a → ∃ o, H a = some o := by
  induction S with
  | nil => intro a z; exact z.elim
  | cons h _ _ ih => intro a z; exact z.elim (fun z => Asn.al _ _ _ h a z) (ih a)
theorem SepF.st {l : List Asn} {g : Addr → Prop} {H H' : Hp} (S : SepF l g H) (k : ∀ a, g a → H' a = H a) (t : Tx H H') : SepF l g H' := by
  induction S with
  | nil => exact .nil
  | cons h _ d ih => exact .cons (Asn.st _ _ _ _ h (fun a z => k a (.inl z)) t) (ih (fun a z => k a (.inr z)) t) d
theorem SepF.iff {l : List Asn} {g g' : Addr → Prop} {H : Hp} (S : SepF l g H) (e : ∀ a, g a ↔ g' a) : SepF l g' H := by
  have : g = g' := funext fun a => propext (e a)
  rw [← this]; exact S
theorem Sep.nil {H : Hp} : Sep [] H := ⟨_, .nil⟩
/-- the i-th to the front -/
theorem SepF.pick {l : List Asn} {g : Addr → Prop} {H : Hp} (S : SepF l g H) : ∀ {i : Nat} {A : Asn}, l[i]? = some A → SepF (A :: l.eraseIdx i) g H := by
  induction S with
  | nil => intro i A e; cases e
  | @cons B l f g H h S d ih =>
    intro i A e
    cases i with
    | zero => cases e; exact .cons h S d
    | succ i =>
      have q := ih (i := i) (A := A) e
      cases q with
      | @cons _ _ f2 g2 _ h2 S2 d2 =>
        refine SepF.iff (.cons h2 (.cons h S2 (fun a z w => d a z (.inr w))) (fun a z w => w.elim (fun w => d a w (.inl z)) (d2 a z))) fun a => ?_
        constructor
        · rintro (z | z | z)
          · exact .inr (.inl z)
          · exact .inl z
          · exact .inr (.inr z)
        · rintro (z | z | z)
          · exact .inr (.inl z)
          · exact .inl z
          · exact .inr (.inr z)
theorem Sep.pick {l : List Asn} {H : Hp} {i : Nat} {A : Asn} (S : Sep l H) (e : l[i]? = some A) : Sep (A :: l.eraseIdx i) H := S.imp fun _ q => q.pick e
theorem SepF.put {B : Asn} {l : List Asn} {f : Addr → Prop} {H : Hp} : ∀ {i : Nat} {l0 : List Asn} {g : Addr → Prop}, SepF l0 g H → i < l.length → l0 = l.eraseIdx i → B.h f H → (∀ a, f a → ¬ g a) → ∃ g', SepF (l.set i B) g' H ∧ ∀ a, g' a ↔ (f a ∨ g a) := by
  induction l with
  | nil => intro i l0 g S hi e hB d; cases hi
  | cons A l ih =>
    intro i l0 g S hi e hB d
    cases i with
    | zero =>
      rw [e] at S
      exact ⟨_, .cons hB S d, fun _ => Iff.rfl⟩
    | succ i =>
      rw [e] at S
      cases S with
      | @cons _ _ f2 g2 _ h2 S2 d2 =>
        obtain ⟨g', S', hg⟩ := ih (i := i) S2 (Nat.lt_of_succ_lt_succ hi) rfl hB (fun a z w => d a z (.inr w))
        refine ⟨_, .cons h2 S' (fun a z w => ((hg a).1 w).elim (fun w => d a w (.inl z)) (d2 a z)), fun a => ?_⟩
        constructor
        · rintro (z | z)
          · exact .inr (.inl z)
          · exact ((hg a).1 z).elim .inl (fun z => .inr (.inr z))
        · rintro (z | z | z)
          · exact .inr ((hg a).2 (.inl z))
          · exact .inl z
          · exact .inr ((hg a).2 (.inr z))
theorem get_lt {α : Type} {l : List α} {i : Nat} {x : α} (e : l[i]? = some x) : i < l.length := (List.getElem?_eq_some_iff.mp e).1
/-- the i-th put back -/
theorem Sep.back {l : List Asn} {H : Hp} {i : Nat} {A B : Asn} (e : l[i]? = some A) (S : Sep (B :: l.eraseIdx i) H) : Sep (l.set i B) H := by
  obtain ⟨g, S⟩ := S
  cases S with
  | cons h S d =>
    obtain ⟨g', q, _⟩ := SepF.put (l := l) (i := i) S (get_lt e) rfl h d
    exact ⟨g', q⟩
theorem Sep.tail {A : Asn} {l : List Asn} {H : Hp} (S : Sep (A :: l) H) : Sep l H := by
  obtain ⟨g, S⟩ := S
  cases S with
  | cons _ S _ => exact ⟨_, S⟩
theorem Sep.head {A : Asn} {l : List Asn} {H : Hp} (S : Sep (A :: l) H) : ∃ f, A.h f H := by
  obtain ⟨g, S⟩ := S
  cases S with
  | cons h _ _ => exact ⟨_, h⟩
theorem Sep.get {l : List Asn} {H : Hp} {i : Nat} {A : Asn} (S : Sep l H) (e : l[i]? = some A) : ∃ f, A.h f H := (S.pick e).head
theorem Sep.mono {A B : Asn} {l : List Asn} {H : Hp} (k : ∀ f, A.h f H → ∃ f', B.h f' H ∧ ∀ a, f' a → f a) (S : Sep (A :: l) H) : Sep (B :: l) H := by
  obtain ⟨g, S⟩ := S
  cases S with
  | cons h S d =>
    obtain ⟨f', h', hf⟩ := k _ h
    exact ⟨_, .cons h' S fun a z => d a (hf a z)⟩
def reord : List Nat → List Asn → List Asn
  | [], l => l
  | i :: is, l => match l[i]? with
    | some A => A :: reord is (l.eraseIdx i)
    | none => []
theorem SepF.reord : ∀ (is : List Nat) {l : List Asn} {g : Addr → Prop} {H : Hp}, SepF l g H → ∃ g', SepF (Y.reord is l) g' H ∧ ∀ a, g' a → g a
  | [], l, g, H, S => ⟨g, S, fun _ z => z⟩
  | i :: is, l, g, H, S => by
    unfold Y.reord
    cases e : l[i]? with
    | none => exact ⟨_, .nil, fun _ z => z.elim⟩
    | some A =>
      have q := S.pick e
      cases q with
      | cons h S d =>
        obtain ⟨g', S', k⟩ := SepF.reord is S
        exact ⟨_, .cons h S' (fun a z w => d a z (k a w)), fun a z => z.elim .inl fun z => .inr (k a z)⟩
theorem Sep.reord {l : List Asn} {H : Hp} (S : Sep l H) (is : List Nat) : Sep (Y.reord is l) H := by
  obtain ⟨g, S⟩ := S
  obtain ⟨g', S', _⟩ := S.reord is
  exact ⟨g', S'⟩
/-- nothing owned: what is true for good -/
def pure' (P : Prop) : Asn := ⟨fun f _ => P ∧ ∀ a, ¬ f a, fun _ _ h a z => (h.2 a z).elim, fun _ _ _ h _ _ => h⟩

/-- an object that may change -/
def At (p : Addr) (o : HO) : Asn := ⟨fun f H => H p = some o ∧ ∀ a, f a ↔ a = p, fun _ _ h a z => ⟨o, by rw [(h.2 a).1 z]; exact h.1⟩, fun _ _ _ h k _ => ⟨by rw [k p ((h.2 p).2 rfl)]; exact h.1, h.2⟩⟩
/-- a tuple -/
def Tp (p : Addr) (xs : List V) : Asn := ⟨fun f H => H p = some (.tup xs) ∧ ∀ a, ¬ f a, fun _ _ h a z => (h.2 a z).elim, fun _ _ _ h _ t => ⟨t _ _ h.1, h.2⟩⟩
section
variable {l : List Asn} {H : Hp} {i : Nat} {p : Addr} {o o' : HO} {xs : List V} {A : Asn}
theorem Sep.at (S : Sep l H) (e : l[i]? = some (At p o)) : H p = some o := by
  obtain ⟨f, h⟩ := S.get e
  exact h.1
theorem Sep.tp (S : Sep l H) (e : l[i]? = some (Tp p xs)) : H p = some (.tup xs) := by
  obtain ⟨f, h⟩ := S.get e
  exact h.1
theorem Sep.new (S : Sep l H) (h : H p = none) : Sep (At p o :: l) (upd H p o) := by
  obtain ⟨g, S⟩ := S
  have hg : ∀ a, g a → a ≠ p := fun a z q => by
    obtain ⟨u, e⟩ := S.al a z
    rw [q, h] at e
    cases e
  exact ⟨_, .cons (f := fun a => a = p) ⟨upd_same, fun _ => Iff.rfl⟩ (S.st (fun a z => upd_ne (hg a z)) (tx_new h)) fun a z w => hg a w z⟩
theorem Sep.newT (S : Sep l H) (h : H p = none) : Sep (Tp p xs :: l) (upd H p (.tup xs)) := by
  obtain ⟨g, S⟩ := S
  have hg : ∀ a, g a → a ≠ p := fun a z q => by
    obtain ⟨u, e⟩ := S.al a z
    rw [q, h] at e
    cases e
  exact ⟨_, .cons (f := fun _ => False) ⟨upd_same, fun _ z => z⟩ (S.st (fun a z => upd_ne (hg a z)) (tx_new h)) fun a z => z.elim⟩
theorem Sep.upd0 (S : Sep (At p o :: l) H) (ho : ∀ xs, o ≠ .tup xs) : Sep (At p o' :: l) (upd H p o') := by
  obtain ⟨g, S⟩ := S
  cases S with
  | @cons _ _ f g _ h S d =>
    have hg : ∀ a, g a → a ≠ p := fun a z q => d a ((h.2 a).2 q) z
    exact ⟨_, .cons (f := f) ⟨upd_same, h.2⟩ (S.st (fun a z => upd_ne (hg a z)) (tx_upd h.1 ho)) d⟩
theorem Sep.upd (S : Sep l H) (e : l[i]? = some (At p o)) (ho : ∀ xs, o ≠ .tup xs) : Sep (l.set i (At p o')) (upd H p o') :=
  Sep.back e ((S.pick e).upd0 ho)
end
/-- several for one -/
def Pk (l : List Asn) : Asn := ⟨fun f H => SepF l f H, fun _ _ h => h.al, fun _ _ _ h k t => h.st k t⟩
theorem SepF.app : ∀ {l m : List Asn} {f g : Addr → Prop} {H : Hp}, SepF l f H → SepF m g H → (∀ a, f a → ¬ g a) → SepF (l ++ m) (fun a => f a ∨ g a) H
  | _, m, _, g, H, .nil, T, _ => T.iff fun a => ⟨.inr, fun z => z.elim (fun z => z.elim) id⟩
  | _, m, _, g, H, .cons h S d, T, k => SepF.iff (.cons h (S.app T fun a z => k a (.inr z)) fun a z w => w.elim (d a z) (k a (.inl z))) fun a => by
      constructor
      · rintro (z | z | z)
        · exact .inl (.inl z)
        · exact .inl (.inr z)
        · exact .inr z
      · rintro ((z | z) | z)
        · exact .inl z
        · exact .inr (.inl z)
        · exact .inr (.inr z)
theorem SepF.cut : ∀ {l m : List Asn} {g : Addr → Prop} {H : Hp}, SepF (l ++ m) g H → ∃ f1 f2, SepF l f1 H ∧ SepF m f2 H ∧ (∀ a, f1 a → ¬ f2 a) ∧ ∀ a, g a ↔ (f1 a ∨ f2 a)
  | [], m, g, H, S => ⟨_, g, .nil, S, fun _ z => z.elim, fun a => ⟨.inr, fun z => z.elim (fun z => z.elim) id⟩⟩
  | A :: l, m, g, H, S0 => by
    have S1 : SepF (A :: (l ++ m)) g H := S0
    cases S1 with
    | @cons _ _ f g2 _ h S d =>
      obtain ⟨f1, f2, S1, S2, k, e⟩ := SepF.cut S
      refine ⟨_, f2, .cons h S1 (fun a z w => d a z ((e a).2 (.inl w))), S2, fun a z w => z.elim (fun z => d a z ((e a).2 (.inr w))) (fun z => k a z w), fun a => ?_⟩
      show (f a ∨ g2 a) ↔ _
      rw [e a]
      constructor
      · rintro (z | z | z)
        · exact .inl (.inl z)
        · exact .inl (.inr z)
        · exact .inr z
      · rintro ((z | z) | z)
        · exact .inl z
        · exact .inr (.inl z)
        · exact .inr (.inr z)
theorem Sep.open' {l m : List Asn} {H : Hp} (S : Sep (Pk l :: m) H) : Sep (l ++ m) H := by
  obtain ⟨g, S⟩ := S
  cases S with
  | cons h S d => exact ⟨_, SepF.app h S d⟩
theorem Sep.close' {l m : List Asn} {H : Hp} (S : Sep (l ++ m) H) : Sep (Pk l :: m) H := by
  obtain ⟨g, S⟩ := S
  obtain ⟨f1, f2, S1, S2, k, e⟩ := S.cut
  exact ⟨_, .cons S1 S2 k⟩
/-- for some x -/
def Exs {α : Type} (A : α → Asn) : Asn := ⟨fun f H => ∃ x, (A x).h f H, fun _ _ ⟨x, h⟩ => (A x).al _ _ h, fun _ _ _ ⟨x, h⟩ k t => ⟨x, (A x).st _ _ _ h k t⟩⟩
theorem Sep.ex {α : Type} {A : α → Asn} {l : List Asn} {H : Hp} (S : Sep (Exs A :: l) H) : ∃ x, Sep (A x :: l) H := by
  obtain ⟨g, S⟩ := S
  cases S with
  | cons h S d =>
    obtain ⟨x, h⟩ := h
    exact ⟨x, _, .cons h S d⟩
theorem Sep.ex' {α : Type} {A : α → Asn} {l : List Asn} {H : Hp} {x : α} (S : Sep (A x :: l) H) : Sep (Exs A :: l) H :=
  Sep.mono (fun f h => ⟨f, ⟨x, h⟩, fun _ z => z⟩) S
theorem Sep.pure {P : Prop} {l : List Asn} {H : Hp} (S : Sep (pure' P :: l) H) : P ∧ Sep l H := ⟨by obtain ⟨f, h⟩ := S.head; exact h.1, S.tail⟩
theorem Sep.pure_in {P : Prop} {l : List Asn} {H : Hp} (p : P) (S : Sep l H) : Sep (pure' P :: l) H := by
  obtain ⟨g, S⟩ := S
  exact ⟨_, .cons (f := fun _ => False) ⟨p, fun _ z => z⟩ S fun _ z => z.elim⟩

/-! operations by the values they meet; one step of a reading a lemma -/

/-! ### rules by or -/
section
variable {X : Cx}
theorem OpR.or {f : Value → Value → Sem Value} {r1 r2 : R2} (h1 : OpR X f r1) (h2 : OpR X f r2) : OpR X f (fun x y H Q => r1 x y H Q ∨ r2 x y H Q) :=
  fun pins s σ H x y v u Q I rx ry h => h.elim (h1 pins s σ H x y v u Q I rx ry) (h2 pins s σ H x y v u Q I rx ry)
theorem CallR.or {f : Value} {r1 r2 : List V → Hp → VK → Prop} (h1 : CallR X f r1) (h2 : CallR X f r2) : CallR X f (fun x H Q => r1 x H Q ∨ r2 x H Q) :=
  fun pins s σ H x u Q I rx h => h.elim (h1 pins s σ H x u Q I rx) (h2 pins s σ H x u Q I rx)
theorem SlR.or {r1 r2 : V → Option Int → Option Int → Hp → VK → Prop} (h1 : SlR X r1) (h2 : SlR X r2) : SlR X (fun x a b H Q => r1 x a b H Q ∨ r2 x a b H Q) := by
  intro pins s σ H
  intros
  rename_i h
  rcases h with h | h
  · apply h1 <;> assumption
  · apply h2 <;> assumption
end
def rAddS : R2 := fun x y H Q => ∃ i j, x = V.str i ∧ y = V.str j ∧ i.length + j.length ≤ sizeLine ∧ Q (V.str (i ++ j)) H
def gAdd : R2 := fun x y H Q => rI0 (fun i j => .int (i + j)) x y H Q ∨ (rAddS x y H Q ∨ rCat x y H Q)
def gMinus : R2 := rI0 fun i j => .int (i - j)
def gMul : R2 := fun x y H Q => rI CMul (fun i j => .int (i * j)) x y H Q ∨ rI CMulW (fun i j => .int (i * j)) x y H Q
def gDiv : R2 := rI CDivW fun i j => .int (i / j)
def gMod : R2 := rI (fun _ j => j ≠ 0) fun i j => .int (i.fmod j)
def gPow : R2 := rI CPow fun i j => .int (i ^ j.toNat)
def gNeg : V → Hp → VK → Prop := rU fun i => .int (-i)
def gEq (K : PySem.W.Frag) : R2 := fun x y H Q => rEq x y H Q ∨ rEqD K x y H Q
def gNe (K : PySem.W.Frag) : R2 := fun x y H Q => rNe x y H Q ∨ rNeD K x y H Q
def gLt : R2 := rI0 fun i j => .bl (decide (i < j))
def gLe : R2 := rI0 fun i j => .bl (decide (i ≤ j))
def gGt : R2 := rI0 fun i j => .bl (decide (j < i))
def gGe : R2 := rI0 fun i j => .bl (decide (j ≤ i))
def rInT (neg : Bool) : R2 := fun x y H Q => ∃ c z, x = V.str ⟨#[c]⟩ ∧ y = V.str z ∧ Q (.bl (if neg then !decide (c ∈ z.cps.toList) else decide (c ∈ z.cps.toList))) H
def gIn (K : PySem.W.Frag) (neg : Bool) : R2 := fun x y H Q => rIn K neg x y H Q ∨ rInT neg x y H Q
def gIs : R2 := fun x y H Q => y = .non ∧ Q (.bl (decide (x = .non))) H
def gIsN : R2 := fun x y H Q => y = .non ∧ Q (.bl (!decide (x = .non))) H
section
variable {X : Cx}
theorem op_gAdd : OpR X (binaryOp .Add) gAdd := OpR.or op_add (OpR.or op_add_str op_cat)
theorem op_gSub : OpR X (binaryOp .Sub) gMinus := op_sub
theorem op_gMul : OpR X (binaryOp .Mult) gMul := OpR.or op_mul op_mulW
theorem op_gDiv : OpR X (binaryOp .FloorDiv) gDiv := op_fdivW
theorem op_gMod : OpR X (binaryOp .Mod) gMod := op_modN
theorem op_gPow : OpR X (binaryOp .Pow) gPow := op_pow
theorem un_gNeg : UnR X (unaryOp .USub) gNeg := un_neg
theorem op_gEq {K : PySem.W.Frag} (hK : X.K = K) (hu : X.A.units + 64 < cLine) : OpR X (compareOp .Eq) (gEq K) := by rw [← hK]; exact OpR.or op_eq (op_eqD hu)
theorem op_gNe {K : PySem.W.Frag} (hK : X.K = K) (hu : X.A.units + 64 < cLine) : OpR X (compareOp .NotEq) (gNe K) := by rw [← hK]; exact OpR.or op_ne (op_neD hu)
theorem op_gLt : OpR X (compareOp .Lt) gLt := op_lt
theorem op_gLe : OpR X (compareOp .LtE) gLe := op_le
theorem op_gGt : OpR X (compareOp .Gt) gGt := op_gt
theorem op_gGe : OpR X (compareOp .GtE) gGe := op_ge
theorem op_gIn {K : PySem.W.Frag} (hK : X.K = K) : OpR X (compareOp .In) (gIn K false) := by rw [← hK]; exact OpR.or op_in_seq op_in_sign
theorem op_gNotIn {K : PySem.W.Frag} (hK : X.K = K) : OpR X (compareOp .NotIn) (gIn K true) := by rw [← hK]; exact OpR.or op_notIn_seq op_notIn_sign
theorem op_gIs : OpR X (compareOp .Is) gIs := op_isN
theorem op_gIsN : OpR X (compareOp .IsNot) gIsN := op_notN
end
def gSl (K : PySem.W.Frag) : V → Option Int → Option Int → Hp → VK → Prop := fun x lo hi H Q => rSlL K x lo hi H Q ∨ rSlS x lo hi H Q
theorem sl_g {X : Cx} {K : PySem.W.Frag} (hK : X.K = K) : SlR X (gSl K) := by rw [← hK]; exact SlR.or sl_list sl_str
theorem ix_g {X : Cx} {K : PySem.W.Frag} (hK : X.K = K) : IxR X (rIx K) := by rw [← hK]; exact ix_seq
def tTr (K : PySem.W.Frag) (ta : TE) : TT := fun σ H Q => ta σ H fun x H' => ∃ k, TruV K x H' k ∧ Q k H'
theorem pt_tr {X : Cx} {K : PySem.W.Frag} (hK : X.K = K) {a : Expr} {ta : TE} (h : PE X a ta) (hw : ∀ whole : Sem Value, isTrue a X.env whole = (do let v ← whole; standAt a.pos; holding [v] (truthy v)) := by intro _; rfl) : PT X a (tTr K ta) := by rw [← hK]; exact pt_truth h hw
def gLen (K : PySem.W.Frag) : List V → Hp → VK → Prop := fun xs H Q => (∃ x n, xs = [x] ∧ LenV K x H n ∧ Q (.int n) H) ∨ ∃ d kvs, xs = [.ref d] ∧ H d = some (.dK kvs) ∧ Q (.int kvs.length) H

/-! ### steps -/
section
variable {σ : St} {H : Hp} {i j : Nat} {v x y z : V} {ta tb tc te : TE} {t u : TT} {tr : TA} {Q : VK} {QB : Bool → Hp → Prop} {QA : List V → Hp → Prop} {b : Bool} {r r' : R2} {K : PySem.W.Frag} {m n : Int} {D : Ends} {ts tz : TS} {l : List Asn} {p : Addr} {xs ys : List V}
theorem r_var (h : σ[i]? = some (some v)) (q : Q v H) : tVar i σ H Q := ⟨v, h, q⟩
theorem r_c (q : Q v H) : tC v σ H Q := q
theorem r_op (q : ta σ H fun x H1 => tb σ H1 fun y H2 => r x y H2 Q) : tOp r ta tb σ H Q := q
theorem r_un {r : V → Hp → VK → Prop} (q : ta σ H fun x H1 => r x H1 Q) : tUn r ta σ H Q := q
theorem r_test (q : te σ H fun x H' => ∃ k, x = .bl k ∧ QB k H') : tTest te σ H QB := q
theorem r_B (q : te σ H fun x H' => ∃ k, x = .bl k ∧ QB k H') : tB te σ H QB := q
theorem r_and (q : t σ H fun c H1 => if c = true then u σ H1 QB else QB false H1) : tAnd t u σ H QB := q
theorem r_or (q : t σ H fun c H1 => if c = true then QB true H1 else u σ H1 QB) : tOr t u σ H QB := q
theorem r_not (q : t σ H fun c H1 => QB (!c) H1) : tNot t σ H QB := q
theorem r_andV (q : ta σ H fun x H1 => ∃ c, x = .bl c ∧ if c = true then tb σ H1 Q else Q (.bl false) H1) : tAndV ta tb σ H Q := q
theorem r_orV (q : ta σ H fun x H1 => ∃ c, x = .bl c ∧ if c = true then Q (.bl true) H1 else tb σ H1 Q) : tOrV ta tb σ H Q := q
theorem r_notV (q : ta σ H fun x H1 => ∃ c, x = .bl c ∧ Q (.bl (!c)) H1) : tNotV ta σ H Q := q
theorem r_isbl {P : Bool → Prop} (q : P b) : ∃ k, V.bl b = .bl k ∧ P k := ⟨b, rfl, q⟩
theorem r_ifE (q : t σ H fun c H1 => if c = true then ta σ H1 Q else tb σ H1 Q) : tIf t ta tb σ H Q := q
theorem r_nil (q : QA [] H) : tNil σ H QA := q
theorem r_cons (q : te σ H fun x H1 => tr σ H1 fun xs H2 => QA (x :: xs) H2) : tCons te tr σ H QA := q
theorem r_if {A B : Prop} (h1 : b = true → A) (h2 : b = false → B) : if b = true then A else B := by
  cases b with
  | true => rw [if_pos rfl]; exact h1 rfl
  | false => rw [if_neg Bool.false_ne_true]; exact h2 rfl
theorem r_ifT {A B : Prop} (h : b = true) (h1 : A) : if b = true then A else B := by rw [if_pos h]; exact h1
theorem r_ifF {A B : Prop} (h : b = false) (h1 : B) : if b = true then A else B := by rw [h, if_neg Bool.false_ne_true]; exact h1
theorem r_ifD {c A B : Prop} [Decidable c] (h1 : c → A) (h2 : ¬ c → B) : if decide c = true then A else B := r_if (fun e => h1 (of_decide_eq_true e)) (fun e => h2 (of_decide_eq_false e))
theorem r_ifN {c A B : Prop} [Decidable c] (h1 : ¬ c → A) (h2 : c → B) : if (!decide c) = true then A else B := r_if (fun e => h1 (of_decide_eq_false (by simpa using e))) (fun e => h2 (of_decide_eq_true (by simpa using e)))
theorem r_ifDT {c A B : Prop} [Decidable c] (h : c) (h1 : A) : if decide c = true then A else B := r_ifD (fun _ => h1) fun e => absurd h e
theorem r_ifDF {c A B : Prop} [Decidable c] (h : ¬ c) (h1 : B) : if decide c = true then A else B := r_ifD (fun e => absurd e h) fun _ => h1
theorem r_ifNT {c A B : Prop} [Decidable c] (h : ¬ c) (h1 : A) : if (!decide c) = true then A else B := r_ifN (fun _ => h1) fun e => absurd e h
theorem r_ifNF {c A B : Prop} [Decidable c] (h : c) (h1 : B) : if (!decide c) = true then A else B := r_ifN (fun e => absurd h e) fun _ => h1
theorem r_ifPT {c A B : Prop} [Decidable c] (h : c) (h1 : A) : if c then A else B := by rw [if_pos h]; exact h1
theorem r_chain (q : ta σ H fun x H1 => tb σ H1 fun y H2 => r x y H2 fun z H3 => ∃ k, z = .bl k ∧ (if k = true then tc σ H3 fun w' H4 => r' y w' H4 Q else Q (.bl false) H3)) : tChain r r' ta tb tc σ H Q := q
theorem r_call {sp : Sp} {E : XK} (q : tr σ H fun vs H1 => sp vs H1 Q E) : tCall sp [] E tr σ H Q := by
  have e : (fun (vs : List V) (H1 : Hp) => sp (vs ++ []) H1 Q E) = fun vs H1 => sp vs H1 Q E := by
    funext vs H1
    rw [List.append_nil]
  show tr σ H fun vs H1 => sp (vs ++ []) H1 Q E
  rw [e]
  exact q
theorem r_callD {sp : Sp} {dvs : List V} {E : XK} (q : tr σ H fun vs H1 => sp (vs ++ dvs) H1 Q E) : tCall sp dvs E tr σ H Q := q
theorem r_CB {r : List V → Hp → VK → Prop} (q : tr σ H fun vs H1 => r vs H1 Q) : tCB r tr σ H Q := q
/-- new lists, tuples -/
theorem r_lst (S : ∀ xs H1, QA xs H1 → Prop) : True := trivial
theorem new_eq {H1 : Hp} {o : HO} (S : Sep l H) (hp : H p = none) (hg : upd H p o = H1) : Sep (At p o :: l) H1 := by rw [← hg]; exact S.new hp
theorem newT_eq {H1 : Hp} (S : Sep l H) (hp : H p = none) (hg : upd H p (.tup xs) = H1) : Sep (Tp p xs :: l) H1 := by rw [← hg]; exact S.newT hp
theorem a_lst (S : Sep l H) (hz : xs.length ≤ sizeLine) (k : ∀ p H', Sep (At p (.lst xs) :: l) H' → Q (.ref p) H') : xs.length ≤ sizeLine ∧ ∀ p, H p = none → Q (.ref p) (upd H p (.lst xs)) :=
  ⟨hz, fun p hp => k p _ (S.new hp)⟩
theorem a_tup (S : Sep l H) (hz : xs.length ≤ sizeLine) (k : ∀ p H', Sep (Tp p xs :: l) H' → Q (.ref p) H') : xs.length ≤ sizeLine ∧ ∀ p, H p = none → Q (.ref p) (upd H p (.tup xs)) :=
  ⟨hz, fun p hp => k p _ (S.newT hp)⟩
theorem a_new {o : HO} (S : Sep l H) (k : ∀ p H', Sep (At p o :: l) H' → Q (.ref p) H') : ∀ p, H p = none → Q (.ref p) (upd H p o) := fun p hp => k p _ (S.new hp)
theorem a_newT (S : Sep l H) (k : ∀ p H', Sep (Tp p xs :: l) H' → Q (.ref p) H') : ∀ p, H p = none → Q (.ref p) (upd H p (.tup xs)) := fun p hp => k p _ (S.newT hp)
theorem r_tup (q : tr σ H fun xs H1 => xs.length ≤ sizeLine ∧ ∀ p, H1 p = none → Q (.ref p) (upd H1 p (.tup xs))) : tTup tr σ H Q := q
theorem r_list (q : tr σ H fun xs H1 => xs.length ≤ sizeLine ∧ ∀ p, H1 p = none → Q (.ref p) (upd H1 p (.lst xs))) : tLst tr σ H Q := q
/-! statements -/
section
variable {nx bk ct : St → Hp → Prop} {rt : VK} {tu : TS}
theorem r_seq (q : ts ⟨tz ⟨nx, rt, bk, ct⟩, rt, bk, ct⟩ σ H) : tSeq ts tz ⟨nx, rt, bk, ct⟩ σ H := q
theorem r_next (q : nx σ H) : tNext ⟨nx, rt, bk, ct⟩ σ H := q
theorem r_brk (q : bk σ H) : tBreak ⟨nx, rt, bk, ct⟩ σ H := q
theorem r_cnt (q : ct σ H) : tCont ⟨nx, rt, bk, ct⟩ σ H := q
theorem r_ret (q : te σ H rt) : tRet te ⟨nx, rt, bk, ct⟩ σ H := q
theorem r_retN (q : rt .non H) : tRetN ⟨nx, rt, bk, ct⟩ σ H := q
theorem r_drop (q : te σ H fun _ H1 => nx σ H1) : tDrop te ⟨nx, rt, bk, ct⟩ σ H := q
theorem r_ifS (q : t σ H fun b H1 => if b = true then ts D σ H1 else tu D σ H1) : tIfS t ts tu D σ H := q
theorem r_asg {g : TG} (q : te σ H fun x H1 => g x σ H1 nx) : tAsg te g ⟨nx, rt, bk, ct⟩ σ H := q
theorem r_aug {ti : TIp} (h : σ[i]? = some (some x)) (q : te σ H fun y H1 => ti x y H1 fun z H2 => nx (σ.set i (some z)) H2) : tAug i te ti ⟨nx, rt, bk, ct⟩ σ H := ⟨x, h, q⟩
end
theorem g_name {R : St → Hp → Prop} (q : R (σ.set i (some v)) H) : gName i v σ H R := q
theorem g_tup {k : Nat} {tg : TGs} {R : St → Hp → Prop} {e : Nat} (S : Sep l H) (hi : l[e]? = some (Tp p xs)) (hk : xs.length = k) (q : tg xs σ H R) : gTup K k tg (.ref p) σ H R := ⟨p, xs, rfl, SqT.of (S.tp hi), hk, q⟩
theorem g_cons {g : TG} {gs : TGs} {R : St → Hp → Prop} (q : g v σ H fun σ' H' => gs xs σ' H' R) : gCons g gs (v :: xs) σ H R := ⟨v, xs, rfl, q⟩
theorem g_nil {R : St → Hp → Prop} (q : R σ H) : gNil [] σ H R := ⟨rfl, q⟩
/-! operations on values -/
theorem o_add (q : Q (.int (m + n)) H) : gAdd (.int m) (.int n) H Q := .inl ⟨m, n, rfl, rfl, q⟩
theorem o_addS {s w : Str} (hz : s.length + w.length ≤ sizeLine) (q : Q (.str (s ++ w)) H) : gAdd (.str s) (.str w) H Q := .inr (.inl ⟨s, w, rfl, rfl, hz, q⟩)
theorem o_cat {p' : Addr} {e e' : Nat} (S : Sep l H) (hi : l[e]? = some (At p (.lst xs))) (hj : l[e']? = some (At p' (.lst ys))) (hz : xs.length + ys.length ≤ sizeLine) (k : ∀ d H', Sep (At d (.lst (xs ++ ys)) :: l) H' → Q (.ref d) H') : gAdd (.ref p) (.ref p') H Q :=
  .inr (.inr ⟨p, p', xs, ys, rfl, rfl, S.at hi, S.at hj, hz, fun d hd => k d _ (S.new hd)⟩)
theorem o_sub (q : Q (.int (m - n)) H) : gMinus (.int m) (.int n) H Q := ⟨m, n, rfl, rfl, q⟩
theorem o_mulL (h : -(2 ^ 64) < m ∧ m < 2 ^ 64) (q : Q (.int (m * n)) H) : gMul (.int m) (.int n) H Q := .inl ⟨m, n, rfl, rfl, .inl h, q⟩
theorem o_mulR (h : -(2 ^ 64) < n ∧ n < 2 ^ 64) (q : Q (.int (m * n)) H) : gMul (.int m) (.int n) H Q := .inl ⟨m, n, rfl, rfl, .inr h, q⟩
theorem o_mulW (h : CMulW m n) (q : Q (.int (m * n)) H) : gMul (.int m) (.int n) H Q := .inr ⟨m, n, rfl, rfl, h, q⟩
theorem o_div (h0 : 0 < n) (h1 : n < 10 ^ 40) (q : Q (.int (m / n)) H) : gDiv (.int m) (.int n) H Q := ⟨m, n, rfl, rfl, wide_div (b := 200) h0 (by
  have e : (10 : Int) ^ 40 < 2 ^ 200 := by decide
  have e2 : (n.natAbs : Int) = n := by omega
  have e3 : ((2 ^ 200 : Nat) : Int) = 2 ^ 200 := by decide
  omega) (by decide) (by decide), q⟩
theorem o_mod (h : 0 < n) (k : ∀ r : Int, r = m % n → 0 ≤ r → r < n → Q (.int r) H) : gMod (.int m) (.int n) H Q := ⟨m, n, rfl, rfl, by omega, by
  have e : m.fmod n = m % n := Int.fmod_eq_emod_of_nonneg m (by omega)
  show Q (.int (m.fmod n)) H
  rw [e]; exact k _ rfl (Int.emod_nonneg m (by omega)) (Int.emod_lt_of_pos m h)⟩
theorem o_pow {k : Nat} (h : 0 ≤ n ∧ n ≤ 1000000 ∧ m.natAbs < 2 ^ 64) (e : n.toNat = k) (q : Q (.int (m ^ k)) H) : gPow (.int m) (.int n) H Q := ⟨m, n, rfl, rfl, h, by rw [← e] at q; exact q⟩
theorem o_neg (q : Q (.int (-n)) H) : gNeg (.int n) H Q := ⟨n, rfl, q⟩
theorem o_lt (q : Q (.bl (decide (m < n))) H) : gLt (.int m) (.int n) H Q := ⟨m, n, rfl, rfl, q⟩
theorem o_le (q : Q (.bl (decide (m ≤ n))) H) : gLe (.int m) (.int n) H Q := ⟨m, n, rfl, rfl, q⟩
theorem o_gt (q : Q (.bl (decide (n < m))) H) : gGt (.int m) (.int n) H Q := ⟨m, n, rfl, rfl, q⟩
theorem o_ge (q : Q (.bl (decide (n ≤ m))) H) : gGe (.int m) (.int n) H Q := ⟨m, n, rfl, rfl, q⟩
theorem d_int {m n : Int} : decide (V.int m = V.int n) = decide (m = n) := by
  by_cases h : m = n
  · rw [h, decide_eq_true rfl, decide_eq_true rfl]
  · rw [decide_eq_false h, decide_eq_false (fun z => h (V.int.inj z))]
theorem d_str {m n : Str} : decide (V.str m = V.str n) = decide (m = n) := by
  by_cases h : m = n
  · rw [h, decide_eq_true rfl, decide_eq_true rfl]
  · rw [decide_eq_false h, decide_eq_false (fun z => h (V.str.inj z))]
theorem d_bl {m n : Bool} : decide (V.bl m = V.bl n) = decide (m = n) := by
  by_cases h : m = n
  · rw [h, decide_eq_true rfl, decide_eq_true rfl]
  · rw [decide_eq_false h, decide_eq_false (fun z => h (V.bl.inj z))]
theorem o_eqI (q : Q (.bl (decide (m = n))) H) : gEq K (.int m) (.int n) H Q := .inl ⟨rfl, by rw [d_int]; exact q⟩
theorem o_eqS {m n : Str} (q : Q (.bl (decide (m = n))) H) : gEq K (.str m) (.str n) H Q := .inl ⟨rfl, by rw [d_str]; exact q⟩
theorem o_eqB {m n : Bool} (q : Q (.bl (decide (m = n))) H) : gEq K (.bl m) (.bl n) H Q := .inl ⟨rfl, by rw [d_bl]; exact q⟩
theorem o_neI (q : Q (.bl (!decide (m = n))) H) : gNe K (.int m) (.int n) H Q := .inl ⟨rfl, by rw [d_int]; exact q⟩
theorem o_neS {m n : Str} (q : Q (.bl (!decide (m = n))) H) : gNe K (.str m) (.str n) H Q := .inl ⟨rfl, by rw [d_str]; exact q⟩
theorem o_neB {m n : Bool} (q : Q (.bl (!decide (m = n))) H) : gNe K (.bl m) (.bl n) H Q := .inl ⟨rfl, by rw [d_bl]; exact q⟩
theorem o_is (q : Q (.bl (decide (x = .non))) H) : gIs x .non H Q := ⟨rfl, q⟩
theorem o_isN (q : Q (.bl (!decide (x = .non))) H) : gIsN x .non H Q := ⟨rfl, q⟩
/-! places -/
theorem x_lst {e : Nat} (S : Sep l H) (hi : l[e]? = some (At p (.lst xs))) (a : atI xs n = some v) (q : Q v H) : rIx K (.ref p) (.int n) H Q := .inl ⟨p, xs, n, v, rfl, rfl, SqL.of (S.at hi), a, q⟩
theorem atI_in {α : Type} {as : List α} (h0 : 0 ≤ n) (h1 : n < as.length) : ∃ y, as[n.toNat]? = some y ∧ atI as n = some y := by
  have hl : n.toNat < as.length := by omega
  refine ⟨as[n.toNat], List.getElem?_eq_getElem hl, ?_⟩
  unfold atI ixN
  rw [if_pos h0, if_pos h1]
  exact List.getElem?_eq_getElem hl
theorem x_lstM {e : Nat} {α : Type} {f : α → V} {as : List α} (S : Sep l H) (hi : l[e]? = some (At p (.lst (as.map f)))) (h0 : 0 ≤ n) (h1 : n < as.length) (k : ∀ y, as[n.toNat]? = some y → Q (f y) H) : rIx K (.ref p) (.int n) H Q := by
  obtain ⟨y, e1, e2⟩ := atI_in h0 h1
  refine x_lst (v := f y) S hi ?_ (k y e1)
  obtain ⟨z, e3, e4⟩ := atI_in (as := as.map f) h0 (by rw [List.length_map]; exact h1)
  rw [List.getElem?_map, e1] at e3
  rw [e4, ← e3]
  rfl
theorem x_lstA {e : Nat} (S : Sep l H) (hi : l[e]? = some (At p (.lst xs))) (h0 : 0 ≤ n) (h1 : n < xs.length) (k : ∀ v, xs[n.toNat]? = some v → Q v H) : rIx K (.ref p) (.int n) H Q := by
  obtain ⟨y, e1, e2⟩ := atI_in h0 h1
  exact x_lst S hi e2 (k y e1)
theorem x_tup {e : Nat} (S : Sep l H) (hi : l[e]? = some (Tp p xs)) (a : atI xs n = some v) (q : Q v H) : rIx K (.ref p) (.int n) H Q := .inr (.inl ⟨p, xs, n, v, rfl, rfl, SqT.of (S.tp hi), a, q⟩)
theorem x_str {z : Str} {c : Nat} (hz : z.length ≤ sizeLine) (a : atI z.cps.toList n = some c) (q : Q (.str ⟨#[c]⟩) H) : rIx K (.str z) (.int n) H Q := .inr (.inr ⟨z, n, c, rfl, rfl, hz, a, q⟩)
theorem g_sub {to ti : TE} {tset : TSet} {R : St → Hp → Prop} (q : to σ H fun o H1 => ti σ H1 fun i H2 => tset o i v H2 fun H3 => R σ H3) : gSub to ti tset v σ H R := q
theorem w_lst {e : Nat} {R : Hp → Prop} {jn : Nat} (S : Sep l H) (hi : l[e]? = some (At p (.lst xs))) (a : ixN xs.length n = some jn) (k : ∀ H', Sep (l.set e (At p (.lst (xs.set jn v)))) H' → R H') : rSetL (.ref p) (.int n) v H R :=
  ⟨p, xs, n, jn, rfl, rfl, S.at hi, a, k _ (S.upd hi fun _ z => nomatch z)⟩
/-! has -/
theorem has0 {A : Asn} : (A :: l)[0]? = some A := rfl
theorem hasS {A B : Asn} (h : l[i]? = some A) : (B :: l)[i + 1]? = some A := h
theorem set_same {α : Type} {x : α} : ∀ {l : List α} {i : Nat}, l[i]? = some x → l.set i x = l
  | [], _, e => by cases e
  | a :: l, 0, e => by cases e; rfl
  | a :: l, i + 1, e => by
    show a :: l.set i x = a :: l
    rw [set_same (l := l) (i := i) e]
theorem Sep.backS {A : Asn} (e : l[i]? = some A) (S : Sep (A :: l.eraseIdx i) H) : Sep l H := by
  have q := Sep.back e S
  rw [set_same e] at q
  exact q
theorem Sep.fr1 {A B : Asn} (S : Sep (A :: B :: l) H) : Sep (B :: A :: l) H := S.pick (i := 1) rfl
theorem Sep.dr1 {A B : Asn} (S : Sep (A :: B :: l) H) : Sep (A :: l) H := S.fr1.tail
theorem Sep.bk1 {A B : Asn} (S : Sep (A :: B :: l) H) : Sep (B :: A :: l) H := S.reord [1]
theorem Sep.fr2 {A B C : Asn} (S : Sep (A :: B :: C :: l) H) : Sep (C :: A :: B :: l) H := S.pick (i := 2) rfl
theorem Sep.dr2 {A B C : Asn} (S : Sep (A :: B :: C :: l) H) : Sep (A :: B :: l) H := S.fr2.tail
theorem Sep.bk2 {A B C : Asn} (S : Sep (A :: B :: C :: l) H) : Sep (B :: C :: A :: l) H := S.reord [1, 1]
theorem Sep.fr3 {A B C D : Asn} (S : Sep (A :: B :: C :: D :: l) H) : Sep (D :: A :: B :: C :: l) H := S.pick (i := 3) rfl
theorem Sep.dr3 {A B C D : Asn} (S : Sep (A :: B :: C :: D :: l) H) : Sep (A :: B :: C :: l) H := S.fr3.tail
theorem Sep.bk3 {A B C D : Asn} (S : Sep (A :: B :: C :: D :: l) H) : Sep (B :: C :: D :: A :: l) H := S.reord [1, 1, 1]
theorem Sep.fr4 {A B C D E : Asn} (S : Sep (A :: B :: C :: D :: E :: l) H) : Sep (E :: A :: B :: C :: D :: l) H := S.pick (i := 4) rfl
theorem Sep.dr4 {A B C D E : Asn} (S : Sep (A :: B :: C :: D :: E :: l) H) : Sep (A :: B :: C :: D :: l) H := S.fr4.tail
theorem Sep.bk4 {A B C D E : Asn} (S : Sep (A :: B :: C :: D :: E :: l) H) : Sep (B :: C :: D :: E :: A :: l) H := S.reord [1, 1, 1, 1]
theorem Sep.fr5 {A B C D E F : Asn} (S : Sep (A :: B :: C :: D :: E :: F :: l) H) : Sep (F :: A :: B :: C :: D :: E :: l) H := S.pick (i := 5) rfl
theorem Sep.dr5 {A B C D E F : Asn} (S : Sep (A :: B :: C :: D :: E :: F :: l) H) : Sep (A :: B :: C :: D :: E :: l) H := S.fr5.tail
theorem Sep.bk5 {A B C D E F : Asn} (S : Sep (A :: B :: C :: D :: E :: F :: l) H) : Sep (B :: C :: D :: E :: F :: A :: l) H := S.reord [1, 1, 1, 1, 1]
theorem Sep.fr6 {A B C D E F G : Asn} (S : Sep (A :: B :: C :: D :: E :: F :: G :: l) H) : Sep (G :: A :: B :: C :: D :: E :: F :: l) H := S.pick (i := 6) rfl
theorem Sep.dr6 {A B C D E F G : Asn} (S : Sep (A :: B :: C :: D :: E :: F :: G :: l) H) : Sep (A :: B :: C :: D :: E :: F :: l) H := S.fr6.tail
theorem Sep.bk6 {A B C D E F G : Asn} (S : Sep (A :: B :: C :: D :: E :: F :: G :: l) H) : Sep (B :: C :: D :: E :: F :: G :: A :: l) H := S.reord [1, 1, 1, 1, 1, 1]
theorem Sep.fr7 {A B C D E F G J : Asn} (S : Sep (A :: B :: C :: D :: E :: F :: G :: J :: l) H) : Sep (J :: A :: B :: C :: D :: E :: F :: G :: l) H := S.pick (i := 7) rfl
theorem Sep.dr7 {A B C D E F G J : Asn} (S : Sep (A :: B :: C :: D :: E :: F :: G :: J :: l) H) : Sep (A :: B :: C :: D :: E :: F :: G :: l) H := S.fr7.tail
theorem Sep.bk7 {A B C D E F G J : Asn} (S : Sep (A :: B :: C :: D :: E :: F :: G :: J :: l) H) : Sep (B :: C :: D :: E :: F :: G :: J :: A :: l) H := S.reord [1, 1, 1, 1, 1, 1, 1]
theorem Sep.fr8 {A B C D E F G J L : Asn} (S : Sep (A :: B :: C :: D :: E :: F :: G :: J :: L :: l) H) : Sep (L :: A :: B :: C :: D :: E :: F :: G :: J :: l) H := S.pick (i := 8) rfl
theorem Sep.dr8 {A B C D E F G J L : Asn} (S : Sep (A :: B :: C :: D :: E :: F :: G :: J :: L :: l) H) : Sep (A :: B :: C :: D :: E :: F :: G :: J :: l) H := S.fr8.tail
theorem Sep.bk8 {A B C D E F G J L : Asn} (S : Sep (A :: B :: C :: D :: E :: F :: G :: J :: L :: l) H) : Sep (B :: C :: D :: E :: F :: G :: J :: L :: A :: l) H := S.reord [1, 1, 1, 1, 1, 1, 1, 1]
/-! builtins -/
def gInt : List V → Hp → VK → Prop := fun xs H Q => (∃ i, xs = [.int i] ∧ Q (.int i) H) ∨ ∃ k, xs = [.bl k] ∧ Q (.int (if k = true then 1 else 0)) H
theorem call_gInt {X : Cx} : CallR X (.type "int") gInt := call_int1
theorem c_int (q : Q (.int n) H) : gInt [.int n] H Q := .inl ⟨n, rfl, q⟩
def gAbs : List V → Hp → VK → Prop := fun xs H Q => ∃ i, xs = [V.int i] ∧ Q (V.int (if i < 0 then -i else i)) H
theorem call_gAbs {X : Cx} : CallR X (.builtin "abs") gAbs := call_abs
theorem c_abs (q : Q (.int (n.natAbs : Int)) H) : gAbs [.int n] H Q := ⟨n, rfl, by
  have e : (if n < 0 then -n else n) = (n.natAbs : Int) := by split <;> omega
  rw [e]; exact q⟩
theorem c_lenL {e : Nat} (S : Sep l H) (hi : l[e]? = some (At p (.lst xs))) (q : Q (.int (xs.length : Nat)) H) : gLen K [.ref p] H Q := .inl ⟨_, _, rfl, .inl ⟨xs, SqL.of (S.at hi), rfl⟩, q⟩
theorem c_lenM {e : Nat} {α : Type} {f : α → V} {as : List α} (S : Sep l H) (hi : l[e]? = some (At p (.lst (as.map f)))) (q : Q (.int (as.length : Nat)) H) : gLen K [.ref p] H Q := c_lenL S hi (by rw [List.length_map]; exact q)
theorem c_lenS {z : Str} (hz : z.length ≤ sizeLine) (q : Q (.int (z.length : Nat)) H) : gLen K [.str z] H Q := .inl ⟨_, _, rfl, ⟨hz, rfl⟩, q⟩
theorem c_lenT {e : Nat} (S : Sep l H) (hi : l[e]? = some (Tp p xs)) (q : Q (.int (xs.length : Nat)) H) : gLen K [.ref p] H Q := .inl ⟨_, _, rfl, .inr ⟨xs, SqT.of (S.tp hi), rfl⟩, q⟩
theorem c_lenD {e : Nat} {kvs : List (Key × V)} (S : Sep l H) (hi : l[e]? = some (At p (.dK kvs))) (q : Q (.int (kvs.length : Nat)) H) : gLen K [.ref p] H Q := .inr ⟨p, kvs, rfl, S.at hi, q⟩
def gList (K : PySem.W.Frag) : List V → Hp → VK → Prop := fun xs H Q => ∃ p ys, xs = [.ref p] ∧ (SqL K H p ys ∨ SqT K H p ys) ∧ ∀ l, H l = none → Q (.ref l) (upd H l (.lst ys))
theorem call_gList {X : Cx} {K : PySem.W.Frag} (hK : X.K = K) : CallR X (.type "list") (gList K) := by rw [← hK]; exact call_list_of
theorem c_listL {e : Nat} (S : Sep l H) (hi : l[e]? = some (At p (.lst xs))) (k : ∀ d H', Sep (At d (.lst xs) :: l) H' → Q (.ref d) H') : gList K [.ref p] H Q := ⟨p, xs, rfl, .inl (SqL.of (S.at hi)), fun d hd => k d _ (S.new hd)⟩
theorem c_listT {e : Nat} (S : Sep l H) (hi : l[e]? = some (Tp p xs)) (k : ∀ d H', Sep (At d (.lst xs) :: l) H' → Q (.ref d) H') : gList K [.ref p] H Q := ⟨p, xs, rfl, .inr (SqT.of (S.tp hi)), fun d hd => k d _ (S.new hd)⟩
theorem r_BM {T : String} {rm : V → List V → Hp → VK → Prop} (q : ta σ H fun x H1 => tyV K T x H1 ∧ tr σ H1 fun xs H2 => rm x xs H2 Q) : tBM K T rm ta tr σ H Q := q
theorem m_tyL {e : Nat} {R : Prop} (S : Sep l H) (hi : l[e]? = some (At p (.lst xs))) (q : R) : tyV K "list" (.ref p) H ∧ R := ⟨.inl ⟨rfl, _, SqL.of (S.at hi)⟩, q⟩
theorem m_append {e : Nat} (S : Sep l H) (hi : l[e]? = some (At p (.lst xs))) (hz : xs.length < 100000) (k : ∀ H', Sep (l.set e (At p (.lst (xs ++ [v])))) H' → Q .non H') : rAppend (.ref p) [v] H Q :=
  ⟨p, xs, v, rfl, rfl, S.at hi, Nat.lt_of_lt_of_le hz (by decide), k _ (S.upd hi fun _ z => nomatch z)⟩
theorem r_sl {rs : V → Option Int → Option Int → Hp → VK → Prop} {tl th : TO} (q : te σ H fun x H1 => tl σ H1 fun lo H2 => th σ H2 fun hi H3 => rs x lo hi H3 Q) : tSl rs te tl th σ H Q := q
theorem r_part {QO : Option Int → Hp → Prop} (q : te σ H fun x H1 => ∃ i, x = .int i ∧ QO (some i) H1) : tPart te σ H QO := q
theorem r_nopart {QO : Option Int → Hp → Prop} (q : QO none H) : tNoPart σ H QO := q
theorem r_isint {P : Int → Prop} (q : P n) : ∃ i, V.int n = .int i ∧ P i := ⟨n, rfl, q⟩
theorem s_lst {e : Nat} {lo hi : Option Int} (S : Sep l H) (he : l[e]? = some (At p (.lst xs))) (k : ∀ d H', Sep (At d (.lst (cutV xs lo hi)) :: l) H' → Q (.ref d) H') : gSl K (.ref p) lo hi H Q := .inl ⟨p, xs, rfl, SqL.of (S.at he), fun d hd => k d _ (S.new hd)⟩
theorem s_str {z : Str} {lo hi : Option Int} (hz : z.length ≤ sizeLine) (q : Q (.str (cutS z lo hi)) H) : gSl K (.str z) lo hi H Q := .inr ⟨z, rfl, hz, q⟩
end

theorem call_gLen0 {X : Cx} : CallR X (.builtin "len") (gLen X.K) := CallR.or call_len fun pins s σ H xs us Q I r h => by
  obtain ⟨a, kvs, rfl, ha, q⟩ := h
  exact call_lenD pins s σ H _ us Q I r ⟨a, kvs, rfl, ha, q⟩
theorem call_gLen {X : Cx} {K : PySem.W.Frag} (hK : X.K = K) : CallR X (.builtin "len") (gLen K) := by rw [← hK]; exact call_gLen0
/-- the draws' source: the cells, the next cell, what is left of a great one, the number of draws -/
def Src (s : Addr) : Asn := Exs fun (x : Addr × List Int × Int × Int × Int) => Pk [pure' (x.2.1.length ≤ 63 ∧ 0 ≤ x.2.2.1 ∧ 0 ≤ x.2.2.2.1 ∧ 0 ≤ x.2.2.2.2), At s (.lst [.ref x.1, .int x.2.2.1, .int x.2.2.2.1, .int x.2.2.2.2]), At x.1 (.lst (x.2.1.map V.int))]
theorem src_open {s : Addr} {l : List Asn} {H : Hp} (S : Sep (Src s :: l) H) : ∃ (L : Addr) (ns : List Int) (a b c : Int), ns.length ≤ 63 ∧ 0 ≤ a ∧ 0 ≤ b ∧ 0 ≤ c ∧ Sep (At s (.lst [.ref L, .int a, .int b, .int c]) :: At L (.lst (ns.map V.int)) :: l) H := by
  obtain ⟨⟨L, ns, a, b, c⟩, S⟩ := S.ex
  obtain ⟨⟨h1, h2, h3, h4⟩, S⟩ := (S.open').pure
  exact ⟨L, ns, a, b, c, h1, h2, h3, h4, S⟩
theorem src_close {s L : Addr} {ns : List Int} {a b c : Int} {l : List Asn} {H : Hp} (h1 : ns.length ≤ 63) (h2 : 0 ≤ a) (h3 : 0 ≤ b) (h4 : 0 ≤ c) (S : Sep (At s (.lst [.ref L, .int a, .int b, .int c]) :: At L (.lst (ns.map V.int)) :: l) H) : Sep (Src s :: l) H :=
  Sep.ex' (x := (L, ns, a, b, c)) (Sep.close' (l := [_, _, _]) (Sep.pure_in ⟨h1, h2, h3, h4⟩ S))
local macro_rules | `(tactic| walk_at "has") => `(tactic| (first | with_reducible exact has0 | with_reducible exact (hasS has0) | with_reducible exact (hasS (hasS has0)) | with_reducible exact (hasS (hasS (hasS has0))) | with_reducible exact (hasS (hasS (hasS (hasS has0)))) | with_reducible exact (hasS (hasS (hasS (hasS (hasS has0))))) | with_reducible exact (hasS (hasS (hasS (hasS (hasS (hasS has0)))))) | with_reducible exact (hasS (hasS (hasS (hasS (hasS (hasS (hasS has0))))))) | with_reducible exact (hasS (hasS (hasS (hasS (hasS (hasS (hasS (hasS has0)))))))) | with_reducible exact (hasS (hasS (hasS (hasS (hasS (hasS (hasS (hasS (hasS has0))))))))) | with_reducible exact (hasS (hasS (hasS (hasS (hasS (hasS (hasS (hasS (hasS (hasS has0)))))))))) | with_reducible exact (hasS (hasS (hasS (hasS (hasS (hasS (hasS (hasS (hasS (hasS (hasS has0))))))))))) | with_reducible exact (hasS (hasS (hasS (hasS (hasS (hasS (hasS (hasS (hasS (hasS (hasS (hasS has0)))))))))))) | with_reducible exact (hasS (hasS (hasS (hasS (hasS (hasS (hasS (hasS (hasS (hasS (hasS (hasS (hasS has0))))))))))))) | exact has0 | exact (hasS has0) | exact (hasS (hasS has0)) | exact (hasS (hasS (hasS has0))) | exact (hasS (hasS (hasS (hasS has0)))) | exact (hasS (hasS (hasS (hasS (hasS has0))))) | exact (hasS (hasS (hasS (hasS (hasS (hasS has0)))))) | exact (hasS (hasS (hasS (hasS (hasS (hasS (hasS has0))))))) | exact (hasS (hasS (hasS (hasS (hasS (hasS (hasS (hasS has0)))))))) | exact (hasS (hasS (hasS (hasS (hasS (hasS (hasS (hasS (hasS has0))))))))) | exact (hasS (hasS (hasS (hasS (hasS (hasS (hasS (hasS (hasS (hasS has0)))))))))) | exact (hasS (hasS (hasS (hasS (hasS (hasS (hasS (hasS (hasS (hasS (hasS has0))))))))))) | exact (hasS (hasS (hasS (hasS (hasS (hasS (hasS (hasS (hasS (hasS (hasS (hasS has0)))))))))))) | exact (hasS (hasS (hasS (hasS (hasS (hasS (hasS (hasS (hasS (hasS (hasS (hasS (hasS has0)))))))))))))))
local macro_rules | `(tactic| walk_at "alloc") => `(tactic| (first
  | (refine ⟨?hz, fun p hp => ?_⟩; (case hz => (first | decide | (simp only [List.length_cons, List.length_nil]; decide))); (generalize hg : upd _ p _ = H1); first | (have S := newT_eq (by assumption) hp hg; clear hg hp) | (have S := new_eq (by assumption) hp hg; clear hg hp))
  | (refine fun p hp => ?_; (generalize hg : upd _ p _ = H1); first | (have S := newT_eq (by assumption) hp hg; clear hg hp) | (have S := new_eq (by assumption) hp hg; clear hg hp))))
local macro_rules | `(tactic| walk_at "v1") => `(tactic| (first
  | with_reducible refine r_var rfl ?_
  | with_reducible refine r_c ?_
  | with_reducible refine r_op ?_
  | with_reducible refine r_un ?_
  | with_reducible refine r_test ?_
  | with_reducible refine r_B ?_
  | with_reducible refine r_isbl ?_
  | with_reducible refine r_and ?_
  | with_reducible refine r_or ?_
  | with_reducible refine r_not ?_
  | with_reducible refine r_andV ?_
  | with_reducible refine r_orV ?_
  | with_reducible refine r_notV ?_
  | with_reducible refine r_ifE ?_
  | with_reducible refine r_nil ?_
  | with_reducible refine r_cons ?_
  | with_reducible refine r_chain ?_
  | with_reducible refine r_call ?_
  | with_reducible refine r_CB ?_
  | with_reducible refine r_tup ?_
  | with_reducible refine r_list ?_
  | with_reducible refine r_seq ?_
  | with_reducible refine r_next ?_
  | with_reducible refine r_ret ?_
  | with_reducible refine r_retN ?_
  | with_reducible refine r_drop ?_
  | with_reducible refine r_ifS ?_
  | with_reducible refine r_asg ?_
  | with_reducible refine g_name ?_
  | with_reducible refine g_cons ?_
  | with_reducible refine g_nil ?_
  | with_reducible refine g_sub ?_
  | with_reducible refine r_sl ?_
  | with_reducible refine r_part ?_
  | with_reducible refine r_nopart ?_
  | with_reducible refine r_isint ?_
  | with_reducible refine o_add ?_
  | with_reducible refine o_sub ?_
  | with_reducible refine o_neg ?_
  | with_reducible refine o_lt ?_
  | with_reducible refine o_le ?_
  | with_reducible refine o_gt ?_
  | with_reducible refine o_ge ?_
  | with_reducible refine o_eqI ?_
  | with_reducible refine o_eqS ?_
  | with_reducible refine o_eqB ?_
  | with_reducible refine o_neI ?_
  | with_reducible refine o_neS ?_
  | with_reducible refine o_neB ?_
  | with_reducible refine o_is ?_
  | with_reducible refine o_isN ?_
  | with_reducible refine c_int ?_
  | with_reducible refine c_abs ?_
  | ((with_reducible refine o_mulR ?hm ?_); (case hm => (constructor <;> decide)))
  | ((with_reducible refine o_mulL ?hm ?_); (case hm => (constructor <;> decide)))
  | ((with_reducible refine o_mulR ?hm ?_); (case hm => (constructor <;> omega)))
  | ((with_reducible refine o_mulL ?hm ?_); (case hm => (constructor <;> omega)))
  | ((with_reducible refine o_div ?h0 ?h1 ?_); (case h0 => (first | decide | omega | assumption)); (case h1 => (first | decide | omega)))
  | ((with_reducible refine o_mod ?h0 ?_); (case h0 => (first | decide | omega | assumption)); intro _ _ _ _)
  | ((with_reducible refine' o_pow ?h0 ?he ?_); (case h0 => decide); (case he => (simp only [Int.reduceToNat]; rfl)))
  | ((with_reducible refine' x_lstM (by assumption) ?hi ?h0 ?h1 ?_); (case hi => walk_at "has"); (case h0 => (first | omega | assumption)); (case h1 => (first | omega | assumption)); intro _ _)
  | ((with_reducible refine' x_lst (by assumption) ?hi ?ha ?_); (case hi => walk_at "has"); (case ha => rfl))
  | ((with_reducible refine' x_tup (by assumption) ?hi ?ha ?_); (case hi => walk_at "has"); (case ha => rfl))
  | ((with_reducible refine' c_lenM (by assumption) ?hi ?_); (case hi => walk_at "has"))
  | ((with_reducible refine' c_lenL (by assumption) ?hi ?_); (case hi => walk_at "has"))
  | ((with_reducible refine' c_lenT (by assumption) ?hi ?_); (case hi => walk_at "has"))
  | ((with_reducible refine' c_lenD (by assumption) ?hi ?_); (case hi => walk_at "has"))
  | ((with_reducible refine' w_lst (by assumption) ?hi ?ha ?_); (case hi => walk_at "has"); (case ha => rfl); intro _ S; simp only [List.set, Int.reduceToNat] at S)
  | walk_at "alloc"
  | with_reducible refine r_BM ?_
  | ((with_reducible refine' m_append (by assumption) ?hi ?hz ?_); (case hi => walk_at "has"); (case hz => (first | decide | omega | assumption)); intro _ S; simp only [List.set] at S)
  | ((with_reducible refine' m_tyL (by assumption) ?hi ?_); (case hi => walk_at "has"))
  | (with_reducible refine r_ifT rfl ?_)
  | (with_reducible refine r_ifF rfl ?_)
  | ((with_reducible refine r_ifDT ?hc ?_); (case hc => (first | omega | assumption)))
  | ((with_reducible refine r_ifDF ?hc ?_); (case hc => (first | omega | assumption)))
  | ((with_reducible refine r_ifNT ?hc ?_); (case hc => (first | omega | assumption)))
  | ((with_reducible refine r_ifNF ?hc ?_); (case hc => (first | omega | assumption)))
  ))
local macro_rules | `(tactic| walk_at "v") => `(tactic| (repeat (walk_at "v1")))

/-! loops, comprehensions, dicts -/
def ForB (J : It) (g : TG) (tb : TS) (D : Ends) : St → Hp → Prop := fun σ H1 => ∃ W : Nat → Nat → St → Hp → Prop, (∃ m, W 0 m σ H1) ∧ ∀ i m σ H, W i m σ H →
  (J.stop i H ∧ D.nx σ H) ∨ (J.go i H ∧ ∃ N : St → Hp → Prop, (∀ σ' H', N σ' H' → ∃ m', m' < m ∧ W (i + 1) m' σ' H') ∧ ∀ x H', J.yld i H x H' → g x σ H' fun σ2 H2 => tb { D with nx := N, ct := N, bk := D.nx } σ2 H2)
def LcB (J : It) (g : TG) (tt : TT) (te : TE) (vs : List Nat) : St → Hp → VK → Prop := fun σ H1 Q => ∀ D, H1 D = none → ∃ W : Nat → Nat → Hp → Prop, (∃ m, W 0 m (upd H1 D (.lst []))) ∧ ∀ i m H, W i m H →
  (J.stop i H ∧ Q (.ref D) H) ∨ (J.go i H ∧ ∃ Nx : Hp → Prop, (∀ H', Nx H' → ∃ m', m' < m ∧ W (i + 1) m' H') ∧ ∀ x H', J.yld i H x H' → g x (wipe σ vs) H' fun σ2 H2 => wipe σ2 vs = wipe σ vs ∧ tt σ2 H2 fun b H3 =>
    if b = true then te σ2 H3 fun y H4 => ∃ acc, H4 D = some (.lst acc) ∧ acc.length < sizeLine ∧ Nx (upd H4 D (.lst (acc ++ [y]))) else Nx H3)
section
variable {σ : St} {H : Hp} {K : PySem.W.Frag} {g : TG} {tb : TS} {nx bk ct : St → Hp → Prop} {rt : VK} {te ta : TE} {tA : TA} {tt : TT} {vs : List Nat} {Q : VK} {l : List Asn} {n m : Int} {p : Addr} {xs : List V} {D : Ends}
theorem r_forR1 (q : tA σ H fun vs H1 => ∃ j : Int, vs = [.int j] ∧ -(2 ^ 62) ≤ j ∧ j < 2 ^ 62 ∧ ForB (Itr 0 j.toNat) g tb D σ H1) : tFor (iRng1 tA) g tb D σ H := q
theorem r_forR2 (q : tA σ H fun vs H1 => ∃ i j : Int, vs = [.int i, .int j] ∧ (-(2 ^ 62) ≤ i ∧ i < 2 ^ 62 ∧ -(2 ^ 62) ≤ j ∧ j < 2 ^ 62) ∧ ForB (Itr i (j - i).toNat) g tb D σ H1) : tFor (iRng2 tA) g tb D σ H := q
theorem r_forL (q : te σ H fun x H1 => ∃ a, x = .ref a ∧ (∃ xs, SqL K H1 a xs) ∧ ForB (Itl K a) g tb D σ H1) : tFor (iList K te) g tb D σ H := q
theorem r_forT (q : te σ H fun x H1 => ∃ a, x = .ref a ∧ (∃ xs, SqT K H1 a xs) ∧ ForB (Itt K a) g tb D σ H1) : tFor (iTup K te) g tb D σ H := q
theorem r_forK (q : te σ H fun x H1 => ∃ d o, x = .ref d ∧ ((∃ kvs, H1 d = some (.frz o (.dK kvs)) ∧ ForB (Itk d o kvs) g tb D σ H1) ∨ ∃ kvs, H1 d = some (.frz o (.dT kvs)) ∧ ForB (Itkt d o kvs) g tb D σ H1)) : tFor (iKeys te) g tb D σ H := q
theorem r_forI (q : te σ H fun x H1 => ∃ d o kvs, x = .ref d ∧ H1 d = some (.frz o (.dK kvs)) ∧ ForB (Iti d o kvs) g tb D σ H1) : tFor (iItems te) g tb D σ H := q
theorem r_forE (q : tA σ H fun vs H1 => ∃ a xs, vs = [.ref a] ∧ SqL K H1 a xs ∧ ForB (Ite K a) g tb D σ H1) : tFor (iEnum K tA) g tb D σ H := q
/-- for k in range(n) -/
theorem forR (b0 : -(2 ^ 62) ≤ n) (b1 : n < 2 ^ 62) (Pv : Nat → St → Hp → Prop) (h0 : Pv 0 σ H) (hs : ∀ (i : Nat) σ H, (i : Int) < n → Pv i σ H → g (.int (i : Int)) σ H fun σ2 H2 => tb ⟨Pv (i + 1), rt, nx, Pv (i + 1)⟩ σ2 H2)
    (hd : ∀ σ H, Pv n.toNat σ H → nx σ H) : ∃ j : Int, [V.int n] = [.int j] ∧ -(2 ^ 62) ≤ j ∧ j < 2 ^ 62 ∧ ForB (Itr 0 j.toNat) g tb ⟨nx, rt, bk, ct⟩ σ H :=
  ⟨n, rfl, b0, b1, for_range (D := ⟨nx, rt, bk, ct⟩) Pv h0 (fun i σ H hi p => by
    have q := hs i σ H (by omega) p
    have e : (0 : Int) + (i : Int) = (i : Int) := Int.zero_add _
    rw [e]
    exact q) hd⟩
/-- for x in xs -/
theorem forL {e : Nat} (S : Sep l H) (hi : l[e]? = some (At p (.lst xs))) (Pv : Nat → St → Hp → Prop) (h0 : Pv 0 σ H) (hl : ∀ i σ H, Pv i σ H → H p = some (.lst xs))
    (hs : ∀ i x σ H, xs[i]? = some x → Pv i σ H → g x σ H fun σ2 H2 => tb ⟨Pv (i + 1), rt, nx, Pv (i + 1)⟩ σ2 H2) (hd : ∀ σ H, Pv xs.length σ H → nx σ H) :
    ∃ a, V.ref p = .ref a ∧ (∃ xs, SqL K H a xs) ∧ ForB (Itl K a) g tb ⟨nx, rt, bk, ct⟩ σ H :=
  ⟨p, rfl, ⟨xs, SqL.of (S.at hi)⟩, for_list (K := K) (D := ⟨nx, rt, bk, ct⟩) Pv h0 (fun i σ H _ q => SqL.of (hl i σ H q)) hs hd⟩
/-- for i, x in enumerate(xs) -/
theorem forE {e : Nat} (S : Sep l H) (hi : l[e]? = some (At p (.lst xs))) (Pv : Nat → St → Hp → Prop) (h0 : Pv 0 σ H) (hl : ∀ i σ H, Pv i σ H → H p = some (.lst xs))
    (hs : ∀ i x T σ H H', xs[i]? = some x → Pv i σ H → H T = none → H' = upd H T (.tup [.int (i : Nat), x]) → g (.ref T) σ H' fun σ2 H2 => tb ⟨Pv (i + 1), rt, nx, Pv (i + 1)⟩ σ2 H2) (hd : ∀ σ H, Pv xs.length σ H → nx σ H) :
    ∃ a ys, [V.ref p] = [.ref a] ∧ SqL K H a ys ∧ ForB (Ite K a) g tb ⟨nx, rt, bk, ct⟩ σ H := by
  refine ⟨p, xs, rfl, SqL.of (S.at hi), fun i m σ H => m = xs.length - i ∧ i ≤ xs.length ∧ Pv i σ H, ⟨xs.length, by simp, Nat.zero_le _, h0⟩, ?_⟩
  rintro i m σ H ⟨rfl, hi, q⟩
  have hq : SqL K H p xs := SqL.of (hl i σ H q)
  by_cases hlt : i < xs.length
  · refine .inr ⟨⟨xs, xs[i], hq, by simp [hlt]⟩, Pv (i + 1), fun σ' H' p' => ⟨xs.length - (i + 1), by omega, rfl, hlt, p'⟩, fun x H' y => ?_⟩
    obtain ⟨T, z, rfl, hn, rfl, f⟩ := y
    exact hs i z T σ H _ (f xs hq) q hn rfl
  · have e : i = xs.length := by omega
    subst e
    exact .inl ⟨⟨xs, hq, Nat.le_refl _⟩, hd σ H q⟩
/-- for k in d, locked -/
theorem forK {e : Nat} {kvs : List (Key × V)} (S : Sep l H) (hi : l[e]? = some (At p (.dK kvs))) (Pv : Obj → Nat → St → Hp → Prop) (h0 : ∀ od H', Sep (l.set e (At p (.frz od (.dK kvs)))) H' → Pv od 0 σ H') (hl : ∀ od i σ H, Pv od i σ H → H p = some (.frz od (.dK kvs)))
    (hs : ∀ od i k v σ H, kvs[i]? = some (k, v) → Pv od i σ H → g (kV k) σ H fun σ2 H2 => tb ⟨Pv od (i + 1), fun v H' => H' p = some (.frz od (.dK kvs)) ∧ rt v (upd H' p (.dK kvs)), fun σ' H' => H' p = some (.frz od (.dK kvs)) ∧ nx σ' (upd H' p (.dK kvs)), Pv od (i + 1)⟩ σ2 H2)
    (hd : ∀ od σ H, Pv od kvs.length σ H → nx σ (upd H p (.dK kvs))) (hv : ∀ H', te σ H' = fun Q => Q (.ref p) H') : tLock (tFor (iKeys te) g tb) ⟨nx, rt, bk, ct⟩ σ H := by
  refine ⟨p, .dK kvs, S.at hi, trivial, fun od => ?_⟩
  have S' := S.upd hi (o' := .frz od (.dK kvs)) (fun _ z => nomatch z)
  refine r_forK ?_
  rw [hv]
  refine ⟨p, od, rfl, .inl ⟨kvs, upd_same, fun i m σ H => m = kvs.length - i ∧ i ≤ kvs.length ∧ Pv od i σ H, ⟨kvs.length, by simp, Nat.zero_le _, h0 od _ S'⟩, ?_⟩⟩
  rintro i m σ H ⟨rfl, hi, q⟩
  have hq := hl od i σ H q
  by_cases hlt : i < kvs.length
  · refine .inr ⟨⟨hq, hlt⟩, Pv od (i + 1), fun σ' H' p' => ⟨kvs.length - (i + 1), by omega, rfl, hlt, p'⟩, fun x H' y => ?_⟩
    obtain ⟨rfl, k, v, ek, rfl⟩ := y
    exact hs od i k v σ _ ek q
  · have e : i = kvs.length := by omega
    subst e
    exact .inl ⟨⟨hq, Nat.le_refl _⟩, hq, hd od σ H q⟩
/-- .. of d.items() -/
theorem forI {e : Nat} {kvs : List (Key × V)} (S : Sep l H) (hi : l[e]? = some (At p (.dK kvs))) (Pv : Obj → Nat → St → Hp → Prop) (h0 : ∀ od H', Sep (l.set e (At p (.frz od (.dK kvs)))) H' → Pv od 0 σ H') (hl : ∀ od i σ H, Pv od i σ H → H p = some (.frz od (.dK kvs)))
    (hs : ∀ od i k v T σ H H', kvs[i]? = some (k, v) → Pv od i σ H → H T = none → H' = upd H T (.tup [kV k, v]) → g (.ref T) σ H' fun σ2 H2 => tb ⟨Pv od (i + 1), fun v H' => H' p = some (.frz od (.dK kvs)) ∧ rt v (upd H' p (.dK kvs)), fun σ' H' => H' p = some (.frz od (.dK kvs)) ∧ nx σ' (upd H' p (.dK kvs)), Pv od (i + 1)⟩ σ2 H2)
    (hd : ∀ od σ H, Pv od kvs.length σ H → nx σ (upd H p (.dK kvs))) (hv : ∀ H', te σ H' = fun Q => Q (.ref p) H') : tLock (tFor (iItems te) g tb) ⟨nx, rt, bk, ct⟩ σ H := by
  refine ⟨p, .dK kvs, S.at hi, trivial, fun od => ?_⟩
  have S' := S.upd hi (o' := .frz od (.dK kvs)) (fun _ z => nomatch z)
  refine r_forI ?_
  rw [hv]
  refine ⟨p, od, kvs, rfl, upd_same, fun i m σ H => m = kvs.length - i ∧ i ≤ kvs.length ∧ Pv od i σ H, ⟨kvs.length, by simp, Nat.zero_le _, h0 od _ S'⟩, ?_⟩
  rintro i m σ H ⟨rfl, hi, q⟩
  have hq := hl od i σ H q
  by_cases hlt : i < kvs.length
  · refine .inr ⟨⟨hq, hlt⟩, Pv od (i + 1), fun σ' H' p' => ⟨kvs.length - (i + 1), by omega, rfl, hlt, p'⟩, fun x H' y => ?_⟩
    obtain ⟨T, k, v, ek, rfl, hn, rfl⟩ := y
    exact hs od i k v T σ H _ ek q hn rfl
  · have e : i = kvs.length := by omega
    subst e
    exact .inl ⟨⟨hq, Nat.le_refl _⟩, hq, hd od σ H q⟩
/-! comprehensions -/
theorem r_lcL (q : te σ H fun x H1 => ∃ a, x = .ref a ∧ (∃ xs, SqL K H1 a xs) ∧ LcB (Itl K a) g tt ta vs σ H1 Q) : tLc (iList K te) g tt ta vs σ H Q := q
theorem r_lcT (q : te σ H fun x H1 => ∃ a, x = .ref a ∧ (∃ xs, SqT K H1 a xs) ∧ LcB (Itt K a) g tt ta vs σ H1 Q) : tLc (iTup K te) g tt ta vs σ H Q := q
theorem r_lcR1 (q : tA σ H fun vs' H1 => ∃ j : Int, vs' = [.int j] ∧ -(2 ^ 62) ≤ j ∧ j < 2 ^ 62 ∧ LcB (Itr 0 j.toNat) g tt ta vs σ H1 Q) : tLc (iRng1 tA) g tt ta vs σ H Q := q
theorem r_lcS (q : te σ H fun v H1 => ∃ x, v = .str x ∧ LcB (Its x) g tt ta vs σ H1 Q) : tLc (iStr te) g tt ta vs σ H Q := q
theorem upd_eqL {e : Nat} {ys : List V} {H1 : Hp} (S : Sep l H) (hi : l[e]? = some (At p (.lst xs))) (hg : upd H p (.lst ys) = H1) : Sep (l.set e (At p (.lst ys))) H1 := by
  rw [← hg]
  exact S.upd hi fun _ z => nomatch z
theorem lc_put1 {e : Nat} {acc : List V} {D : Addr} {R : List V → Prop} (S : Sep l H) (hi : l[e]? = some (At D (.lst acc))) (hz : acc.length < 100000) (k : R acc) : ∃ acc', H D = some (.lst acc') ∧ acc'.length < sizeLine ∧ R acc' := ⟨acc, S.at hi, Nat.lt_of_lt_of_le hz (by decide), k⟩
/-- the turn's end: the item goes to the new list -/
theorem lc_put {e : Nat} {acc : List V} {v : V} {D : Addr} {Nx : Hp → Prop} (S : Sep l H) (hi : l[e]? = some (At D (.lst acc))) (hz : acc.length < 100000) (k : ∀ H', Sep (l.set e (At D (.lst (acc ++ [v])))) H' → Nx H') :
    ∃ acc', H D = some (.lst acc') ∧ acc'.length < sizeLine ∧ Nx (upd H D (.lst (acc' ++ [v]))) := ⟨acc, S.at hi, Nat.lt_of_lt_of_le hz (by decide), k _ (S.upd hi fun _ z => nomatch z)⟩
abbrev LcT (g : TG) (tt : TT) (ta : TE) (vs : List Nat) (σ : St) (x : V) (D : Addr) (N : Hp → Prop) (H : Hp) : Prop := g x (wipe σ vs) H fun σ2 H2 => wipe σ2 vs = wipe σ vs ∧ tt σ2 H2 fun b H3 =>
      if b = true then ta σ2 H3 fun y H4 => ∃ acc, H4 D = some (.lst acc) ∧ acc.length < sizeLine ∧ N (upd H4 D (.lst (acc ++ [y]))) else N H3
theorem lc_turn {x : V} {N : Hp → Prop} {D : Addr} (q : g x (wipe σ vs) H fun σ2 H2 => wipe σ2 vs = wipe σ vs ∧ tt σ2 H2 fun b H3 =>
      if b = true then ta σ2 H3 fun y H4 => ∃ acc, H4 D = some (.lst acc) ∧ acc.length < sizeLine ∧ N (upd H4 D (.lst (acc ++ [y]))) else N H3) : LcT g tt ta vs σ x D N H := q
/-- [e for x in xs if ..], xs at an address of ours; D: the new list's address -/
theorem lcL {e : Nat} (S : Sep l H) (hi : l[e]? = some (At p (.lst xs))) (Pv : Addr → Nat → Hp → Prop) (h0 : ∀ D H', Sep (At D (.lst []) :: l) H' → Pv D 0 H') (hl : ∀ D i H, Pv D i H → H p = some (.lst xs))
    (hs : ∀ D i x H, xs[i]? = some x → Pv D i H → LcT g tt ta vs σ x D (Pv D (i + 1)) H) (hd : ∀ D H, Pv D xs.length H → Q (.ref D) H) : ∃ a, V.ref p = .ref a ∧ (∃ xs, SqL K H a xs) ∧ LcB (Itl K a) g tt ta vs σ H Q :=
  ⟨p, rfl, ⟨xs, SqL.of (S.at hi)⟩, fun D hD => lc_list (K := K) (Pv D) (h0 D _ (S.new hD)) (fun i H _ q => SqL.of (hl D i H q)) (hs D) (hd D)⟩
/-- .. over range(n) -/
theorem lcR (S : Sep l H) (b0 : -(2 ^ 62) ≤ n) (b1 : n < 2 ^ 62) (Pv : Addr → Nat → Hp → Prop) (h0 : ∀ D H', Sep (At D (.lst []) :: l) H' → Pv D 0 H')
    (hs : ∀ D (i : Nat) H, (i : Int) < n → Pv D i H → LcT g tt ta vs σ (.int (i : Int)) D (Pv D (i + 1)) H) (hd : ∀ D H, Pv D n.toNat H → Q (.ref D) H) : ∃ j : Int, [V.int n] = [.int j] ∧ -(2 ^ 62) ≤ j ∧ j < 2 ^ 62 ∧ LcB (Itr 0 j.toNat) g tt ta vs σ H Q :=
  ⟨n, rfl, b0, b1, fun D hD => lc_range (Pv D) (h0 D _ (S.new hD)) (fun i H hi q => by
    have e : (0 : Int) + (i : Int) = (i : Int) := Int.zero_add _
    rw [e]
    exact hs D i H (by omega) q) (hd D)⟩
/-- .. over the signs of a text -/
theorem lcS {x : Str} (S : Sep l H) (Pv : Addr → Nat → Hp → Prop) (h0 : ∀ D H', Sep (At D (.lst []) :: l) H' → Pv D 0 H')
    (hs : ∀ D (i : Nat) c H, x.cps[i]? = some c → Pv D i H → LcT g tt ta vs σ (.str ⟨#[c]⟩) D (Pv D (i + 1)) H) (hd : ∀ D H, Pv D x.cps.size H → Q (.ref D) H) : ∃ z, V.str x = .str z ∧ LcB (Its z) g tt ta vs σ H Q := by
  refine ⟨x, rfl, fun D hD => ⟨fun i m H => m = x.cps.size - i ∧ i ≤ x.cps.size ∧ Pv D i H, ⟨x.cps.size, by simp, Nat.zero_le _, h0 D _ (S.new hD)⟩, ?_⟩⟩
  rintro i m H ⟨rfl, hi, q⟩
  by_cases hlt : i < x.cps.size
  · refine .inr ⟨hlt, Pv D (i + 1), fun H' p' => ⟨x.cps.size - (i + 1), by omega, rfl, hlt, p'⟩, fun y H' z => ?_⟩
    obtain ⟨rfl, c, ec, rfl⟩ := z
    exact hs D i c _ ec q
  · have e : i = x.cps.size := by omega
    subst e
    exact .inl ⟨Nat.le_refl _, hd D H q⟩
/-- .. over the keys of a dict, locked -/
theorem lcK {e : Nat} {kvs : List (Key × V)} (S : Sep l H) (hi : l[e]? = some (At p (.dK kvs))) (Pv : Obj → Addr → Nat → Hp → Prop) (h0 : ∀ od D H', Sep (At D (.lst []) :: l.set e (At p (.frz od (.dK kvs)))) H' → Pv od D 0 H') (hl : ∀ od D i H, Pv od D i H → H p = some (.frz od (.dK kvs)))
    (hs : ∀ od D i k v H, kvs[i]? = some (k, v) → Pv od D i H → LcT g tt ta vs σ (kV k) D (Pv od D (i + 1)) H) (hd : ∀ od D H, Pv od D kvs.length H → Q (.ref D) (upd H p (.dK kvs))) (hv : ∀ H', te σ H' = fun Q => Q (.ref p) H') : tLockE (tLc (iKeys te) g tt ta vs) σ H Q := by
  refine ⟨p, .dK kvs, S.at hi, trivial, fun od => ?_⟩
  have S' := S.upd hi (o' := .frz od (.dK kvs)) (fun _ z => nomatch z)
  show te σ _ _
  rw [hv]
  refine ⟨p, od, rfl, .inl ⟨kvs, upd_same, fun D hD => ⟨fun i m H => m = kvs.length - i ∧ i ≤ kvs.length ∧ Pv od D i H, ⟨kvs.length, by simp, Nat.zero_le _, h0 od D _ (S'.new hD)⟩, ?_⟩⟩⟩
  rintro i m H ⟨rfl, hi, q⟩
  have hq := hl od D i H q
  by_cases hlt : i < kvs.length
  · refine .inr ⟨⟨hq, hlt⟩, Pv od D (i + 1), fun H' p' => ⟨kvs.length - (i + 1), by omega, rfl, hlt, p'⟩, fun x H' y => ?_⟩
    obtain ⟨rfl, k, v, ek, rfl⟩ := y
    exact hs od D i k v _ ek q
  · have e : i = kvs.length := by omega
    subst e
    exact .inl ⟨⟨hq, Nat.le_refl _⟩, hq, hd od D H q⟩
/-- .. over d.items(), locked -/
theorem lcI {e : Nat} {kvs : List (Key × V)} (S : Sep l H) (hi : l[e]? = some (At p (.dK kvs))) (Pv : Obj → Addr → Nat → Hp → Prop) (h0 : ∀ od D H', Sep (At D (.lst []) :: l.set e (At p (.frz od (.dK kvs)))) H' → Pv od D 0 H') (hl : ∀ od D i H, Pv od D i H → H p = some (.frz od (.dK kvs)))
    (hs : ∀ od D i k v T H H', kvs[i]? = some (k, v) → Pv od D i H → H T = none → H' = upd H T (.tup [kV k, v]) → LcT g tt ta vs σ (.ref T) D (Pv od D (i + 1)) H') (hd : ∀ od D H, Pv od D kvs.length H → Q (.ref D) (upd H p (.dK kvs))) (hv : ∀ H', te σ H' = fun Q => Q (.ref p) H') : tLockE (tLc (iItems te) g tt ta vs) σ H Q := by
  refine ⟨p, .dK kvs, S.at hi, trivial, fun od => ?_⟩
  have S' := S.upd hi (o' := .frz od (.dK kvs)) (fun _ z => nomatch z)
  show te σ _ _
  rw [hv]
  refine ⟨p, od, kvs, rfl, upd_same, fun D hD => ⟨fun i m H => m = kvs.length - i ∧ i ≤ kvs.length ∧ Pv od D i H, ⟨kvs.length, by simp, Nat.zero_le _, h0 od D _ (S'.new hD)⟩, ?_⟩⟩
  rintro i m H ⟨rfl, hi, q⟩
  have hq := hl od D i H q
  by_cases hlt : i < kvs.length
  · refine .inr ⟨⟨hq, hlt⟩, Pv od D (i + 1), fun H' p' => ⟨kvs.length - (i + 1), by omega, rfl, hlt, p'⟩, fun x H' y => ?_⟩
    obtain ⟨T, k, v, ek, rfl, hn, rfl⟩ := y
    exact hs od D i k v T H _ ek q hn rfl
  · have e : i = kvs.length := by omega
    subst e
    exact .inl ⟨⟨hq, Nat.le_refl _⟩, hq, hd od D H q⟩
/-! rules that name the written part -/
section
variable {X : Cx} (hK : X.K = K)
include hK
theorem pi_gList {tg e : Expr} (h : PE X e te) : PI X tg e (iList K te) := by rw [← hK]; exact pi_list h
theorem pi_gTup {tg e : Expr} (h : PE X e te) : PI X tg e (iTup K te) := by rw [← hK]; exact pi_tup h
theorem pg_gTup {pos : Pos} {es : List Expr} {k : Nat} {t : TGs} {n : Nat} (hc : X.calm = true) (h : PGs X es t) (hn : (assignEach es X.env).length = n := by rfl) (hpl : (assignEach es X.env).findIdx? (·.1) = none := by rfl) : PG X (.Tuple es k pos) (gTup K n t) := by rw [← hK]; exact pg_tup hc h hn hpl
theorem pe_gFld {e : Expr} {f : Str} {pos : Pos} (h : PE X e te) (hb : attributeBase e f X.env (eval e X.env) = eval e X.env) : PE X (.Attribute e f pos) (tFld K te f) := by rw [← hK]; exact pe_fld h hb
end
/-! a word between a statement and the rest -/
def tCut (t u : TS) : TS := fun D σ H => ∃ Mid : St → Hp → Prop, t { D with nx := Mid } σ H ∧ ∀ σ' H', Mid σ' H' → u D σ' H'
theorem pss_cut {X : Cx} {st : Stmt} {rest : List Stmt} {t u : TS} (h1 : PS X st t) (h2 : PSs X rest u) : PSs X (st :: rest) (tCut t u) := by
  refine ⟨fun pins s σ H D I h => ?_⟩
  obtain ⟨Mid, hm, hu⟩ := h
  refine wpAny_execs_cons (thn (h1.run pins s σ H { D with nx := Mid } I hm) fun f s1 q => ?_)
  cases f with
  | next =>
    obtain ⟨σ', H', I', q⟩ := q
    exact h2.run pins s1 σ' H' D I' (hu σ' H' q)
  | ret v => exact q
  | brk => exact q
  | cont => exact q
theorem r_cut {ts tz : TS} (Mid : St → Hp → Prop) (h : ts ⟨Mid, rt, bk, ct⟩ σ H) (k : ∀ σ' H', Mid σ' H' → tz ⟨nx, rt, bk, ct⟩ σ' H') : tCut ts tz ⟨nx, rt, bk, ct⟩ σ H := ⟨Mid, h, k⟩
/-! dicts -/
theorem d_get2 {td ty tx : TE} (q : td σ H fun x H1 => ∃ a, x = .ref a ∧ IsD H1 a ∧ ty σ H1 fun y H2 => tx σ H2 fun z H3 => ∃ o, DGet H3 a y o ∧ Q (o.getD z) H3) : tDGet2 td ty tx σ H Q := q
theorem d_get {td ty : TE} (q : td σ H fun x H1 => ty σ H1 fun y H2 => ∃ a v, x = .ref a ∧ DGet H2 a y (some v) ∧ Q v H2) : tDGet td ty σ H Q := q
theorem d_put {td ty tv : TE} (q : tv σ H fun v H1 => td σ H1 fun x H2 => ty σ H2 fun y H3 => ∃ a H4, x = .ref a ∧ DPut H3 a y v H4 ∧ nx σ H4) : sDPut td ty tv ⟨nx, rt, bk, ct⟩ σ H := q
end

/-! data: tuples of data, lists of data -/
mutual
inductive IsD (H : Hp) : V → PyData → Prop
  | non : IsD H .non .none
  | bl (b : Bool) : IsD H (.bl b) (.bool b)
  | int (i : Int) : IsD H (.int i) (.int i)
  | str (x : Str) : IsD H (.str x) (.str x)
  | tup {q : Addr} {vs : List V} {ds : List PyData} : H q = some (.tup vs) → IsDs H vs ds → IsD H (.ref q) (.tuple ds)
inductive IsDs (H : Hp) : List V → List PyData → Prop
  | nil : IsDs H [] []
  | cons {v : V} {vs : List V} {d : PyData} {ds : List PyData} : IsD H v d → IsDs H vs ds → IsDs H (v :: vs) (d :: ds)
end
mutual
theorem IsD.tx {H H' : Hp} (t : Tx H H') : ∀ {v : V} {d : PyData}, IsD H v d → IsD H' v d
  | _, _, .non => .non
  | _, _, .bl b => .bl b
  | _, _, .int i => .int i
  | _, _, .str x => .str x
  | _, _, .tup h r => .tup (t _ _ h) (IsDs.tx t r)
theorem IsDs.tx {H H' : Hp} (t : Tx H H') : ∀ {vs : List V} {ds : List PyData}, IsDs H vs ds → IsDs H' vs ds
  | _, _, .nil => .nil
  | _, _, .cons h r => .cons (IsD.tx t h) (IsDs.tx t r)
end
mutual
theorem IsD.dp {K : PySem.W.Frag} {H : Hp} : ∀ {v : V} {d : PyData}, IsD H v d → Dp K H v d
  | _, _, .non => .non
  | _, _, .bl b => .bl b
  | _, _, .int i => .int i
  | _, _, .str x => .str x
  | _, _, .tup h r => .tup (SqT.of h) (IsDs.dp r)
theorem IsDs.dp {K : PySem.W.Frag} {H : Hp} : ∀ {vs : List V} {ds : List PyData}, IsDs H vs ds → DpAll K H vs ds
  | _, _, .nil => .nil
  | _, _, .cons h r => .cons (IsD.dp h) (IsDs.dp r)
end
theorem IsDs.len {H : Hp} : ∀ {vs : List V} {ds : List PyData}, IsDs H vs ds → vs.length = ds.length
  | _, _, .nil => rfl
  | _, _, .cons _ r => congrArg (· + 1) r.len
theorem IsDs.get {H : Hp} : ∀ {vs : List V} {ds : List PyData} {i : Nat} {v : V}, IsDs H vs ds → vs[i]? = some v → ∃ d, ds[i]? = some d ∧ IsD H v d
  | _, _, _, _, .nil, e => by cases e
  | _, _, 0, _, .cons h _, e => by cases e; exact ⟨_, rfl, h⟩
  | _, _, i + 1, _, .cons _ r, e => r.get (i := i) e
theorem IsDs.snoc {H : Hp} {v : V} {d : PyData} (h : IsD H v d) : ∀ {vs : List V} {ds : List PyData}, IsDs H vs ds → IsDs H (vs ++ [v]) (ds ++ [d])
  | _, _, .nil => .cons h .nil
  | _, _, .cons k r => .cons k (r.snoc h)
theorem IsDs.app {H : Hp} : ∀ {vs ws : List V} {ds es : List PyData}, IsDs H vs ds → IsDs H ws es → IsDs H (vs ++ ws) (ds ++ es)
  | _, _, _, _, .nil, s => s
  | _, _, _, _, .cons k r, s => .cons k (r.app s)
/-- data at a value, for good -/
def DV (v : V) (d : PyData) : Asn := ⟨fun f H => IsD H v d ∧ ∀ a, ¬ f a, fun _ _ h a z => (h.2 a z).elim, fun _ _ _ h _ t => ⟨h.1.tx t, h.2⟩⟩
def DVs (vs : List V) (ds : List PyData) : Asn := ⟨fun f H => IsDs H vs ds ∧ ∀ a, ¬ f a, fun _ _ h a z => (h.2 a z).elim, fun _ _ _ h _ t => ⟨h.1.tx t, h.2⟩⟩
/-- a list of data -/
def LD (a : Addr) (ds : List PyData) : Asn := Exs fun vs : List V => Pk [At a (.lst vs), DVs vs ds]
section
variable {l : List Asn} {H : Hp} {i : Nat} {A : Asn} {a : Addr} {ds : List PyData} {vs : List V} {v : V} {d : PyData}
theorem Sep.dv (S : Sep l H) (e : l[i]? = some (DV v d)) : IsD H v d := (S.get e).elim fun _ h => h.1
theorem Sep.dvs (S : Sep l H) (e : l[i]? = some (DVs vs ds)) : IsDs H vs ds := (S.get e).elim fun _ h => h.1
/-- what is true for good is added -/
theorem Sep.know (S : Sep l H) (h : A.h (fun _ => False) H) : Sep (A :: l) H := by
  obtain ⟨g, S⟩ := S
  exact ⟨_, .cons h S fun _ z => z.elim⟩
theorem Sep.addD (S : Sep l H) (h : IsD H v d) : Sep (DV v d :: l) H := S.know ⟨h, fun _ z => z⟩
theorem Sep.addDs (S : Sep l H) (h : IsDs H vs ds) : Sep (DVs vs ds :: l) H := S.know ⟨h, fun _ z => z⟩
theorem Sep.addT {q : Addr} {xs : List V} (S : Sep l H) (h : H q = some (.tup xs)) : Sep (Tp q xs :: l) H := S.know ⟨h, fun _ z => z⟩
theorem ld_open (S : Sep (LD a ds :: l) H) : ∃ vs, IsDs H vs ds ∧ Sep (At a (.lst vs) :: DVs vs ds :: l) H := by
  obtain ⟨vs, S⟩ := S.ex
  have S := S.open'
  exact ⟨vs, S.dvs (i := 1) rfl, S⟩
theorem ld_close (h : IsDs H vs ds) (S : Sep (At a (.lst vs) :: l) H) : Sep (LD a ds :: l) H :=
  Sep.ex' (x := vs) (Sep.close' (l := [_, _]) ((S.addDs h).reord [1, 0]))
theorem ld_dp {K : PySem.W.Frag} (S : Sep l H) (e : l[i]? = some (LD a ds)) : Dp K H (.ref a) (.list ds) := by
  obtain ⟨vs, h, S⟩ := ld_open (S.pick e)
  exact .lst (SqL.of (S.at (i := 0) rfl)) h.dp
end
/-- pairs of a word and a number -/
def pd (x : Str × Int) : PyData := .tuple [.str x.1, .int x.2]
abbrev pds (ps : List (Str × Int)) : List PyData := ps.map pd
theorem isD_pair {H : Hp} {v : V} {x : Str × Int} (h : IsD H v (pd x)) : ∃ q, v = .ref q ∧ H q = some (.tup [.str x.1, .int x.2]) := by
  cases h with
  | @tup q vs _ hq r =>
    cases r with
    | cons h1 r =>
      cases h1
      cases r with
      | cons h2 r =>
        cases h2
        cases r
        exact ⟨q, rfl, hq⟩
theorem pair_isD {H : Hp} {q : Addr} {w : Str} {n : Int} (h : H q = some (.tup [.str w, .int n])) : IsD H (.ref q) (pd (w, n)) := .tup h (.cons (.str w) (.cons (.int n) .nil))
theorem ps_get {H : Hp} {vs : List V} {ps : List (Str × Int)} {i : Nat} {v : V} (h : IsDs H vs (pds ps)) (e : vs[i]? = some v) : ∃ q x, ps[i]? = some x ∧ v = .ref q ∧ H q = some (.tup [.str x.1, .int x.2]) := by
  obtain ⟨d, e1, h1⟩ := h.get e
  rw [List.getElem?_map] at e1
  cases e2 : ps[i]? with
  | none => rw [e2] at e1; cases e1
  | some x =>
    rw [e2] at e1
    cases e1
    obtain ⟨q, rfl, hq⟩ := isD_pair h1
    exact ⟨q, x, rfl, rfl, hq⟩
theorem ps_len {H : Hp} {vs : List V} {ps : List (Str × Int)} (h : IsDs H vs (pds ps)) : vs.length = ps.length := by rw [h.len, List.length_map]
/-! ### words -/
def abc : List Nat := ("abcdefghijklmnopqrstuvwxyz" : Str).cps.toList
def Wd (w : Str) : Prop := 1 ≤ w.length ∧ w.length ≤ 8 ∧ ∀ c ∈ w.cps.toList, c ∈ abc
instance (w : Str) : Decidable (Wd w) := by unfold Wd; infer_instance
/-- good pairs -/
def Gp (ps : List (Str × Int)) : Prop := ∀ x ∈ ps, Wd x.1 ∧ -(10 ^ 30) < x.2 ∧ x.2 < 10 ^ 30
theorem abc_len : abc.length = 26 := by decide +kernel
section
variable {l : List Asn} {H : Hp} {K : PySem.W.Frag} {Q : VK} {n : Int} {z : Str}
theorem x_strI (hz : z.length ≤ 1000) (h0 : 0 ≤ n) (h1 : n < z.cps.toList.length) (k : ∀ c, c ∈ z.cps.toList → Q (.str ⟨#[c]⟩) H) : rIx K (.str z) (.int n) H Q := by
  obtain ⟨y, e1, e2⟩ := atI_in h0 h1
  exact x_str (Nat.le_trans hz (by decide)) e2 (k y (List.mem_of_getElem? e1))
theorem str_len_app (a b : Str) : (a ++ b).length = a.length + b.length := by
  show (a.cps ++ b.cps).size = _
  rw [Array.size_append]; rfl
theorem str_app (a b : Str) : (a ++ b).cps.toList = a.cps.toList ++ b.cps.toList := by
  show (a.cps ++ b.cps).toList = _
  rw [Array.toList_append]
end

/-! dicts of words and numbers -/
/-- the number of a word -/
def num : List (Str × Int) → Str → Int
  | [], _ => 0
  | x :: m, w => if x.1 = w then x.2 else num m w
def keys (m : List (Str × Int)) : List Str := m.map (·.1)
abbrev mp (m : List (Str × Int)) : List (Key × V) := m.map fun x => (Sum.inr x.1, V.int x.2)
def mput : List (Str × Int) → Str → Int → List (Str × Int)
  | [], w, n => [(w, n)]
  | x :: m, w, n => if x.1 = w then (x.1, n) :: m else x :: mput m w n
theorem num_put : ∀ (m : List (Str × Int)) (w : Str) (n : Int) (v : Str), num (mput m w n) v = if v = w then n else num m v
  | [], w, n, v => by
    show (if w = v then n else 0) = _
    by_cases h : v = w
    · rw [if_pos h, if_pos h.symm]
    · rw [if_neg h, if_neg (fun z => h z.symm)]; rfl
  | x :: m, w, n, v => by
    unfold mput
    by_cases hx : x.1 = w
    · rw [if_pos hx]
      show (if x.1 = v then n else num m v) = if v = w then n else (if x.1 = v then x.2 else num m v)
      by_cases h : v = w
      · rw [if_pos h, if_pos (by rw [hx, h])]
      · rw [if_neg h, if_neg (fun z => h (by rw [← z, hx])), if_neg (fun z => h (by rw [← z, hx]))]
    · rw [if_neg hx]
      show (if x.1 = v then x.2 else num (mput m w n) v) = if v = w then n else (if x.1 = v then x.2 else num m v)
      rw [num_put m w n v]
      by_cases h : v = w
      · rw [if_pos h, if_pos h, if_neg (fun z => hx (by rw [z, h]))]
      · rw [if_neg h, if_neg h]
theorem keys_put : ∀ (m : List (Str × Int)) (w : Str) (n : Int), keys (mput m w n) = if w ∈ keys m then keys m else keys m ++ [w]
  | [], w, n => by
    rw [if_neg (by intro h; cases h)]; rfl
  | x :: m, w, n => by
    unfold mput
    by_cases hx : x.1 = w
    · rw [if_pos hx, if_pos (by show w ∈ x.1 :: keys m; rw [hx]; exact List.mem_cons_self)]; rfl
    · rw [if_neg hx]
      show x.1 :: keys (mput m w n) = if w ∈ x.1 :: keys m then x.1 :: keys m else (x.1 :: keys m) ++ [w]
      rw [keys_put m w n]
      by_cases h : w ∈ keys m
      · rw [if_pos h, if_pos (show w ∈ x.1 :: keys m from List.mem_cons_of_mem _ h)]
      · rw [if_neg h, if_neg (show ¬ w ∈ x.1 :: keys m by
          intro z
          rcases List.mem_cons.1 z with z | z
          · exact hx z.symm
          · exact h z), List.cons_append]
theorem nodup_put {m : List (Str × Int)} (h : (keys m).Nodup) (w : Str) (n : Int) : (keys (mput m w n)).Nodup := by
  rw [keys_put]
  split
  · exact h
  · rename_i hw
    exact nd_snoc h hw
theorem len_put (m : List (Str × Int)) (w : Str) (n : Int) : (mput m w n).length ≤ m.length + 1 := by
  have e := congrArg List.length (keys_put m w n)
  unfold keys at e
  rw [List.length_map] at e
  rw [e]
  split <;> simp
theorem len_put_in {m : List (Str × Int)} {w : Str} (n : Int) (h : w ∈ keys m) : (mput m w n).length = m.length := by
  have e := congrArg List.length (keys_put m w n)
  rw [if_pos h] at e
  unfold keys at e
  rw [List.length_map, List.length_map] at e
  exact e
theorem mem_put {m : List (Str × Int)} {w v : Str} {n : Int} (h : v ∈ keys (mput m w n)) : v = w ∨ v ∈ keys m := by
  rw [keys_put] at h
  split at h
  · exact .inr h
  · rcases List.mem_append.1 h with h | h
    · exact .inr h
    · exact .inl (List.mem_singleton.1 h)
theorem val_mp : ∀ (m : List (Str × Int)) (w : Str), valV (mp m) (Sum.inr w : Key) = if w ∈ keys m then some (V.int (num m w)) else none
  | [], w => by rw [if_neg (by intro h; cases h)]; rfl
  | x :: m, w => by
    by_cases hx : x.1 = w
    · rw [if_pos (show w ∈ keys (x :: m) by rw [← hx]; exact List.mem_cons_self)]
      show valV ((Sum.inr x.1, V.int x.2) :: mp m) (Sum.inr w : Key) = some (V.int (if x.1 = w then x.2 else num m w))
      rw [if_pos hx]
      exact valV_pos (congrArg Sum.inr hx)
    · show valV ((Sum.inr x.1, V.int x.2) :: mp m) (Sum.inr w : Key) = _
      rw [valV_neg (show ¬ (Sum.inr x.1 : Key) = Sum.inr w from fun z => hx (Sum.inr.inj z)), val_mp m w]
      show (if w ∈ keys m then some (V.int (num m w)) else none) = if w ∈ x.1 :: keys m then some (V.int (if x.1 = w then x.2 else num m w)) else none
      rw [if_neg hx]
      by_cases h : w ∈ keys m
      · rw [if_pos h, if_pos (List.mem_cons_of_mem _ h)]
      · rw [if_neg h, if_neg (by
          intro z
          rcases List.mem_cons.1 z with z | z
          · exact hx z.symm
          · exact h z)]
theorem put_mp (m : List (Str × Int)) (w : Str) (n : Int) (hn : (keys m).Nodup) : putK (mp m) (Sum.inr w : Key) (V.int n) = mp (mput m w n) := by
  induction m with
  | nil => rfl
  | cons x m ih =>
    have ih := ih (List.nodup_cons.1 hn).2
    have hv := val_mp (x :: m) w
    by_cases hx : x.1 = w
    · unfold mput
      rw [if_pos hx]
      unfold putK
      rw [if_pos (by rw [valV_any, hv, if_pos (show w ∈ keys (x :: m) by rw [← hx]; exact List.mem_cons_self)]; rfl)]
      show _ :: _ = _ :: _
      have hw : ¬ w ∈ keys m := by rw [← hx]; exact (List.nodup_cons.1 hn).1
      congr 1
      · show (if (Sum.inr x.1 : Key) = Sum.inr w then (Sum.inr x.1, V.int n) else (Sum.inr x.1, V.int x.2)) = _
        rw [if_pos (congrArg Sum.inr hx)]
      · show (mp m).map _ = mp m
        rw [List.map_map]
        apply List.map_congr_left
        intro y hy
        show (if (Sum.inr y.1 : Key) = Sum.inr w then (Sum.inr y.1, V.int n) else (Sum.inr y.1, V.int y.2)) = _
        rw [if_neg (fun z => hw (by rw [← Sum.inr.inj z]; exact List.mem_map_of_mem hy))]
    · unfold mput
      rw [if_neg hx]
      show putK ((Sum.inr x.1, V.int x.2) :: mp m) _ _ = (Sum.inr x.1, V.int x.2) :: mp (mput m w n)
      rw [← ih]
      have hne : ¬ (Sum.inr x.1 : Key) = Sum.inr w := fun z => hx (Sum.inr.inj z)
      unfold putK
      rw [List.any_cons, decide_eq_false hne, Bool.false_or]
      by_cases ha : ((mp m).any fun kv => decide (kv.1 = (Sum.inr w : Key))) = true
      · rw [if_pos ha, if_pos ha, List.map_cons]
        congr 1
        show (if (Sum.inr x.1 : Key) = Sum.inr w then _ else _) = _
        rw [if_neg hne]
      · rw [if_neg ha, if_neg ha]; rfl
theorem num_none {m : List (Str × Int)} {w : Str} (h : ¬ w ∈ keys m) : num m w = 0 := by
  induction m with
  | nil => rfl
  | cons x m ih =>
    show (if x.1 = w then x.2 else num m w) = 0
    rw [if_neg (fun z => h (by rw [← z]; exact List.mem_cons_self)), ih (fun z => h (List.mem_cons_of_mem _ z))]
theorem num_in {m : List (Str × Int)} (hn : (keys m).Nodup) {x : Str × Int} (h : x ∈ m) : num m x.1 = x.2 := by
  induction m with
  | nil => cases h
  | cons y m ih =>
    show (if y.1 = x.1 then y.2 else num m x.1) = x.2
    rcases List.mem_cons.1 h with h | h
    · rw [h, if_pos rfl]
    · rw [if_neg (fun z => (List.nodup_cons.1 hn).1 (by show y.1 ∈ keys m; rw [z]; exact List.mem_map_of_mem h))]
      exact ih (List.nodup_cons.1 hn).2 h
theorem key_num {m : List (Str × Int)} (hn : (keys m).Nodup) {w : Str} (h : w ∈ keys m) : (w, num m w) ∈ m := by
  obtain ⟨x, hx, e⟩ := List.mem_map.1 h
  have q := num_in hn hx
  rw [← e, q]
  exact hx
/-- the sum of a word's numbers -/
def psum : List (Str × Int) → Str → Int
  | [], _ => 0
  | x :: ps, w => (if x.1 = w then x.2 else 0) + psum ps w
theorem psum_app : ∀ (ps qs : List (Str × Int)) (w : Str), psum (ps ++ qs) w = psum ps w + psum qs w
  | [], qs, w => by show _ = 0 + _; rw [Int.zero_add]; rfl
  | x :: ps, qs, w => by
    show _ + psum (ps ++ qs) w = _ + psum ps w + _
    rw [psum_app ps qs w, Int.add_assoc]
/-! steps -/
section
variable {σ : St} {H : Hp} {i j : Nat} {v x y z : V} {td ty tx tv : TE} {Q : VK} {l : List Asn} {d : Addr} {m : List (Str × Int)} {w : Str} {n : Int} {nx bk ct : St → Hp → Prop} {rt : VK} {RV : V → Prop} {RO : Option V → Prop} {RB : Bool → Prop} {RH : Hp → Prop}
theorem e_isd {e : Nat} {kvs : List (Key × V)} {R : Addr → Prop} (S : Sep l H) (hi : l[e]? = some (At d (.dK kvs))) (q : R d) : ∃ a, V.ref d = .ref a ∧ L2.IsD H a ∧ R a := ⟨d, rfl, .inl ⟨kvs, .inl (S.at hi)⟩, q⟩
theorem e_isdF {e : Nat} {kvs : List (Key × V)} {od : Obj} {R : Addr → Prop} (S : Sep l H) (hi : l[e]? = some (At d (.frz od (.dK kvs)))) (q : R d) : ∃ a, V.ref d = .ref a ∧ L2.IsD H a ∧ R a := ⟨d, rfl, .inl ⟨kvs, .inr ⟨od, S.at hi⟩⟩, q⟩
theorem dget_of {kvs : List (Key × V)} (h : Rd H d (.dK kvs)) : DGet H d (.str w) (valV kvs (Sum.inr w)) := .inl ⟨kvs, Sum.inr w, h, rfl, rfl⟩
theorem get0_of {R : Option V → Prop} (h : Rd H d (.dK (mp m))) (q : ∀ o : Option V, o.getD (.int 0) = .int (num m w) → R o) : ∃ o, DGet H d (.str w) o ∧ R o := ⟨_, dget_of h, q _ (by
  rw [val_mp]
  by_cases hw : w ∈ keys m
  · rw [if_pos hw]; rfl
  · rw [if_neg hw, num_none hw]; rfl)⟩
theorem e_get0 {e : Nat} {R : Option V → Prop} (S : Sep l H) (hi : l[e]? = some (At d (.dK (mp m)))) (q : ∀ o : Option V, o.getD (.int 0) = .int (num m w) → R o) : ∃ o, DGet H d (.str w) o ∧ R o := get0_of (.inl (S.at hi)) q
theorem e_get0F {e : Nat} {od : Obj} {R : Option V → Prop} (S : Sep l H) (hi : l[e]? = some (At d (.frz od (.dK (mp m))))) (q : ∀ o : Option V, o.getD (.int 0) = .int (num m w) → R o) : ∃ o, DGet H d (.str w) o ∧ R o := get0_of (.inr ⟨od, S.at hi⟩) q
theorem geti_of (h : Rd H d (.dK (mp m))) (hw : w ∈ keys m) (q : RV (.int (num m w))) : ∃ a v, V.ref d = .ref a ∧ DGet H a (.str w) (some v) ∧ RV v := ⟨d, _, rfl, by
  have e := dget_of (w := w) h
  rw [val_mp, if_pos hw] at e
  exact e, q⟩
theorem e_getI {e : Nat} (S : Sep l H) (hi : l[e]? = some (At d (.dK (mp m)))) (hw : w ∈ keys m) (q : RV (.int (num m w))) : ∃ a v, V.ref d = .ref a ∧ DGet H a (.str w) (some v) ∧ RV v := geti_of (.inl (S.at hi)) hw q
theorem e_getIF {e : Nat} {od : Obj} (S : Sep l H) (hi : l[e]? = some (At d (.frz od (.dK (mp m))))) (hw : w ∈ keys m) (q : RV (.int (num m w))) : ∃ a v, V.ref d = .ref a ∧ DGet H a (.str w) (some v) ∧ RV v := geti_of (.inr ⟨od, S.at hi⟩) hw q
theorem e_putI {e : Nat} (S : Sep l H) (hi : l[e]? = some (At d (.dK (mp m)))) (hn : (keys m).Nodup) (hz : m.length < 100000) (k : ∀ H', Sep (l.set e (At d (.dK (mp (mput m w n))))) H' → RH H') :
    ∃ a H4, V.ref d = .ref a ∧ DPut H a (.str w) (.int n) H4 ∧ RH H4 := by
  refine ⟨d, _, rfl, DPut.k (k := Sum.inr w) (S.at hi) (by rw [List.length_map]; exact Nat.lt_of_lt_of_le hz (by decide)), ?_⟩
  rw [put_mp m w n hn]
  exact k _ (S.upd hi fun _ z => nomatch z)
theorem e_in {e : Nat} (S : Sep l H) (hi : l[e]? = some (At d (.dK (mp m)))) (q : ∀ o : Option V, o.isSome = decide (w ∈ keys m) → RO o) : ∃ a o, V.ref d = .ref a ∧ DGet H a (.str w) o ∧ RO o := ⟨d, _, rfl, dget_of (.inl (S.at hi)), q _ (by
  rw [val_mp]
  by_cases hw : w ∈ keys m
  · rw [decide_eq_true hw, if_pos hw]; rfl
  · rw [decide_eq_false hw, if_neg hw]; rfl)⟩
theorem d_in (q : ty σ H fun y H1 => td σ H1 fun x H2 => ∃ a o, x = .ref a ∧ DGet H2 a y o ∧ Q (.bl o.isSome) H2) : tDIn ty td σ H Q := q
end

/-! more steps -/
theorem r_dnew {σ : St} {H : Hp} {Q : VK} (q : ∀ p, H p = none → Q (.ref p) (upd H p (.dK []))) : tDNewK σ H Q := q
theorem r_yes {σ : St} {H : Hp} {Q : Bool → Hp → Prop} (q : Q true H) : tYes σ H Q := q
theorem l_wipe {σ σ2 : St} {vs : List Nat} {P : Prop} (h : wipe σ2 vs = wipe σ vs) (q : P) : wipe σ2 vs = wipe σ vs ∧ P := ⟨h, q⟩
local macro_rules | `(tactic| walk_at "v1") => `(tactic| (first
  | with_reducible refine r_yes ?_
  | ((with_reducible refine l_wipe ?h ?_); (case h => rfl))
  | ((with_reducible refine' lc_put1 (by assumption) ?hi ?hz ?_); (case hi => walk_at "has"); (case hz => (first | decide | omega | (simp only [List.length_map, List.length_take, List.length_append]; omega))); (generalize hg : upd _ _ _ = H1); have S := upd_eqL (by assumption) (by walk_at "has") hg; clear hg; simp only [List.set] at S)
  | with_reducible refine r_forR1 ?_
  | with_reducible refine r_forR2 ?_
  | with_reducible refine r_forL ?_
  | with_reducible refine r_forT ?_
  | with_reducible refine r_forE ?_
  | with_reducible refine r_lcL ?_
  | with_reducible refine r_lcT ?_
  | with_reducible refine r_lcR1 ?_
  | with_reducible refine r_lcS ?_
  | with_reducible refine r_dnew ?_
  | with_reducible refine d_get2 ?_
  | with_reducible refine d_get ?_
  | with_reducible refine d_put ?_
  | with_reducible refine d_in ?_
  | ((with_reducible refine' g_tup (by assumption) ?hi ?hk ?_); (case hi => walk_at "has"); (case hk => rfl))
  | ((with_reducible refine' e_isd (by assumption) ?hi ?_); (case hi => walk_at "has"))
  | ((with_reducible refine' e_isdF (by assumption) ?hi ?_); (case hi => walk_at "has"))
  | ((with_reducible refine' e_get0 (by assumption) ?hi ?_); (case hi => walk_at "has"); (refine fun o ho => ?_); rw [ho]; clear ho)
  | ((with_reducible refine' e_get0F (by assumption) ?hi ?_); (case hi => walk_at "has"); (refine fun o ho => ?_); rw [ho]; clear ho)
  | ((with_reducible refine' e_getI (by assumption) ?hi (by assumption) ?_); (case hi => walk_at "has"))
  | ((with_reducible refine' e_getIF (by assumption) ?hi (by assumption) ?_); (case hi => walk_at "has"))
  | ((with_reducible refine' e_putI (by assumption) ?hi (by assumption) ?hz ?_); (case hi => walk_at "has"); (case hz => (first | decide | omega)); intro _ S; simp only [List.set] at S)
  | ((with_reducible refine' e_in (by assumption) ?hi ?_); (case hi => walk_at "has"); (refine fun o ho => ?_); rw [ho]; clear ho)))

/-! words in order; what is told of a number function -/
/-! ### the order of texts -/
def lt' (a b : Str) : Prop := PySem.Spec.ltCps a.cps.toList b.cps.toList = true
theorem ltc_irr : ∀ (a : List Nat), PySem.Spec.ltCps a a = false
  | [] => rfl
  | x :: r => by
    show (decide (x < x) || (x == x && PySem.Spec.ltCps r r)) = false
    rw [ltc_irr r]; simp
theorem ltc_tri : ∀ (a b : List Nat), PySem.Spec.ltCps a b = false → PySem.Spec.ltCps b a = false → a = b
  | [], [], _, _ => rfl
  | [], _ :: _, h, _ => by cases h
  | _ :: _, [], _, h => by cases h
  | x :: r, y :: t, h1, h2 => by
    have h1 : (decide (x < y) || (x == y && PySem.Spec.ltCps r t)) = false := h1
    have h2 : (decide (y < x) || (y == x && PySem.Spec.ltCps t r)) = false := h2
    simp only [Bool.or_eq_false_iff, decide_eq_false_iff_not, Bool.and_eq_false_iff, beq_eq_false_iff_ne] at h1 h2
    have e : x = y := by omega
    subst e
    rw [ltc_tri r t (h1.2.resolve_left (fun z => z rfl)) (h2.2.resolve_left (fun z => z rfl))]
theorem ltc_trans : ∀ (a b c : List Nat), PySem.Spec.ltCps a b = true → PySem.Spec.ltCps b c = true → PySem.Spec.ltCps a c = true
  | [], [], _, h, _ => by cases h
  | [], _ :: _, [], _, h => by cases h
  | [], _ :: _, _ :: _, _, _ => rfl
  | _ :: _, [], _, h, _ => by cases h
  | _ :: _, _ :: _, [], _, h => by cases h
  | x :: r, y :: t, z :: u, h1, h2 => by
    have h1 : (decide (x < y) || (x == y && PySem.Spec.ltCps r t)) = true := h1
    have h2 : (decide (y < z) || (y == z && PySem.Spec.ltCps t u)) = true := h2
    show (decide (x < z) || (x == z && PySem.Spec.ltCps r u)) = true
    simp only [Bool.or_eq_true, decide_eq_true_eq, Bool.and_eq_true, beq_iff_eq] at h1 h2 ⊢
    rcases h1 with h1 | ⟨e1, h1⟩
    · rcases h2 with h2 | ⟨e2, h2⟩
      · exact .inl (by omega)
      · exact .inl (by omega)
    · rcases h2 with h2 | ⟨e2, h2⟩
      · exact .inl (by omega)
      · exact .inr ⟨by omega, ltc_trans r t u h1 h2⟩
theorem str_ext {a b : Str} (h : a.cps.toList = b.cps.toList) : a = b := by
  cases a; cases b
  congr
  exact Array.ext' h
theorem lt_tri {a b : Str} (h : ¬ lt' a b) (h2 : ¬ lt' b a) : a = b :=
  str_ext (ltc_tri _ _ (Bool.eq_false_iff.2 h) (Bool.eq_false_iff.2 h2))
theorem lt_irr (a : Str) : ¬ lt' a a := by
  unfold lt'
  rw [ltc_irr]
  exact Bool.false_ne_true
theorem lt_trans' {a b c : Str} (h : lt' a b) (h2 : lt' b c) : lt' a c := ltc_trans _ _ _ h h2
/-- ascending, each once -/
def Asc (ws : List Str) : Prop := ws.Pairwise lt'
theorem asc_of_rising : ∀ (p : Str) (ws : List Str), PyProof.Rows.risingS p ws = true → (p :: ws).Nodup → Asc (p :: ws)
  | p, [], _, _ => List.pairwise_singleton _ _
  | p, x :: r, h, hn => by
    have h : (!PySem.Spec.ltCps x.cps.toList p.cps.toList && PyProof.Rows.risingS x r) = true := h
    simp only [Bool.and_eq_true, Bool.not_eq_true'] at h
    have ih := asc_of_rising x r h.2 (List.nodup_cons.1 hn).2
    have hpx : lt' p x := Classical.byContradiction fun z => by
      have e := lt_tri z (by unfold lt'; rw [h.1]; exact Bool.false_ne_true)
      exact (List.nodup_cons.1 hn).1 (by rw [e]; exact List.mem_cons_self)
    refine List.pairwise_cons.2 ⟨fun y hy => ?_, ih⟩
    rcases List.mem_cons.1 hy with rfl | hy
    · exact hpx
    · exact lt_trans' hpx ((List.pairwise_cons.1 ih).1 y hy)
theorem asc_of_sorted {ws : List Str} (h : PyProof.Rows.sortedS ws = true) (hn : ws.Nodup) : Asc ws := by
  cases ws with
  | nil => exact List.Pairwise.nil
  | cons p r => exact asc_of_rising p r h hn
theorem asc_same : ∀ {xs ys : List Str}, Asc xs → Asc ys → (∀ w, w ∈ xs ↔ w ∈ ys) → xs = ys
  | [], [], _, _, _ => rfl
  | [], y :: ys, _, _, h => by cases (h y).2 List.mem_cons_self
  | x :: xs, [], _, _, h => by cases (h x).1 List.mem_cons_self
  | x :: xs, y :: ys, hx, hy, h => by
    obtain ⟨hx1, hx2⟩ := List.pairwise_cons.1 hx
    obtain ⟨hy1, hy2⟩ := List.pairwise_cons.1 hy
    have e : x = y := by
      rcases List.mem_cons.1 ((h x).1 List.mem_cons_self) with e | m1
      · exact e
      · rcases List.mem_cons.1 ((h y).2 List.mem_cons_self) with e | m2
        · exact e.symm
        · exact (lt_irr x (lt_trans' (hx1 y m2) (hy1 x m1))).elim
    subst e
    rw [asc_same hx2 hy2 fun w => ?_]
    constructor
    · intro m
      rcases List.mem_cons.1 ((h w).1 (List.mem_cons_of_mem _ m)) with rfl | q
      · exact (lt_irr w (hx1 w m)).elim
      · exact q
    · intro m
      rcases List.mem_cons.1 ((h w).2 (List.mem_cons_of_mem _ m)) with rfl | q
      · exact (lt_irr w (hy1 w m)).elim
      · exact q
/-- L is what is told of the numbers g: the words with a number that is not 0, ascending -/
def Told (g : Str → Int) (L : List (Str × Int)) : Prop := Asc (keys L) ∧ (∀ w, w ∈ keys L ↔ g w ≠ 0) ∧ ∀ x ∈ L, x.2 = g x.1
theorem told_same {g : Str → Int} {L M : List (Str × Int)} (h : Told g L) (h2 : Told g M) : L = M := by
  have e : keys L = keys M := asc_same h.1 h2.1 fun w => by rw [h.2.1 w, h2.2.1 w]
  have r : ∀ {L : List (Str × Int)}, (∀ x ∈ L, x.2 = g x.1) → L = (keys L).map fun w => (w, g w) := fun {L} q => by
    unfold keys
    rw [List.map_map]
    conv => lhs; rw [← List.map_id L]
    apply List.map_congr_left
    intro x hx
    show x = (x.1, g x.1)
    rw [← q x hx]
  rw [r h.2.2, r h2.2.2, e]
/-- the words of a dict in order, those without a number left out -/
def toldOf (m : List (Str × Int)) (ws : List Str) : List (Str × Int) := (ws.filter fun w => decide (num m w ≠ 0)).map fun w => (w, num m w)
theorem told_of {m : List (Str × Int)} {ws : List Str} (hs : Asc ws) (hw : ∀ w, w ∈ ws ↔ w ∈ keys m) : Told (num m) (toldOf m ws) := by
  have ek : keys (toldOf m ws) = ws.filter fun w => decide (num m w ≠ 0) := by
    unfold keys toldOf
    rw [List.map_map]
    conv => rhs; rw [← List.map_id (ws.filter _)]
    exact List.map_congr_left fun _ _ => rfl
  refine ⟨?_, fun w => ?_, fun x hx => ?_⟩
  · rw [ek]
    exact List.Pairwise.filter _ hs
  · rw [ek, List.mem_filter, decide_eq_true_eq, hw]
    refine ⟨fun h => h.2, fun h => ⟨Classical.byContradiction fun z => h (num_none z), h⟩⟩
  · obtain ⟨w, _, rfl⟩ := List.mem_map.1 hx
    rfl
theorem take_snoc {α : Type} {l : List α} {i : Nat} {x : α} (h : l[i]? = some x) : l.take (i + 1) = l.take i ++ [x] := by rw [List.take_add_one, h]; rfl
/-! steps -/
section
variable {σ : St} {H : Hp} {Q : VK} {l : List Asn} {p : Addr} {ws : List Str} {K : PySem.W.Frag}
def gSorted (K : PySem.W.Frag) : List V → Hp → VK → Prop := rSortedS K
theorem call_gSorted {X : Cx} {K : PySem.W.Frag} (hK : X.K = K) : CallR X (.builtin "sorted") (gSorted K) := by rw [← hK]; exact cr_sortedS
theorem c_sorted {e : Nat} (S : Sep l H) (hi : l[e]? = some (At p (.lst (ws.map V.str)))) (hz : ws.length < 64) (k : ∀ (ys : List Str) d H', ys.Perm ws → PyProof.Rows.sortedS ys = true → Sep (At d (.lst (ys.map V.str)) :: l) H' → Q (.ref d) H') : gSorted K [.ref p] H Q :=
  ⟨p, ws, rfl, SqL.of (S.at hi), hz, fun ys d h1 h2 hd => k ys d _ h1 h2 (S.new hd)⟩
def gStrS : List V → Hp → VK → Prop := fun xs H Q => ∃ a, xs = [.str a] ∧ Q (.str a) H
theorem call_gStrS {X : Cx} : CallR X (.type "str") gStrS := SkE.call_str_str
theorem c_strS {w : Str} (q : Q (.str w) H) : gStrS [.str w] H Q := ⟨w, rfl, q⟩
end
local macro_rules | `(tactic| walk_at "v1") => `(tactic| (with_reducible refine c_strS ?_))

/-! isinstance -/
def gIsi (K : PySem.W.Frag) : List V → Hp → VK → Prop := fun xs H Q => rIsi K xs H Q ∨ rIsiT K xs H Q
theorem call_gIsi {X : Cx} {K : PySem.W.Frag} (hK : X.K = K) : CallR X (.builtin "isinstance") (gIsi K) := by rw [← hK]; exact CallR.or call_isi call_isiT
section
variable {K : PySem.W.Frag} {H : Hp} {Q : VK} {l : List Asn} {x : V} {n : Int} {s : Str} {b : Bool} {p : Addr} {xs : List V}
theorem i_one {t u : Value} {c : V} (hc : ClsV c u) (hx : TyX K H x t) (h : PySem.W.kitOne K t u = some b) (q : Q (.bl b) H) : gIsi K [x, c] H Q := .inl ⟨x, c, t, u, b, rfl, hc, hx, h, q⟩
theorem i_ty {a T : String} (hx : TyX K H x (.type a)) (h : kitB a T = some b) (q : Q (.bl b) H) : gIsi K [x, .ty T] H Q := i_one (.ty T) hx (kit_ty h) q
theorem k_ii : kitB "int" "int" = some true := by decide +kernel
theorem k_ib : kitB "int" "bool" = some false := by decide +kernel
theorem k_is : kitB "int" "str" = some false := by decide +kernel
theorem k_ss : kitB "str" "str" = some true := by decide +kernel
theorem k_si : kitB "str" "int" = some false := by decide +kernel
theorem k_sb : kitB "str" "bool" = some false := by decide +kernel
theorem k_bi : kitB "bool" "int" = some true := by decide +kernel
theorem k_bb : kitB "bool" "bool" = some true := by decide +kernel
theorem k_bs : kitB "bool" "str" = some false := by decide +kernel
theorem k_ll : kitB "list" "list" = some true := by decide +kernel
theorem k_lt : kitB "list" "tuple" = some false := by decide +kernel
theorem k_li : kitB "list" "int" = some false := by decide +kernel
theorem k_ls : kitB "list" "str" = some false := by decide +kernel
theorem k_tt : kitB "tuple" "tuple" = some true := by decide +kernel
theorem k_tl : kitB "tuple" "list" = some false := by decide +kernel
theorem k_ti : kitB "tuple" "int" = some false := by decide +kernel
theorem k_ts : kitB "tuple" "str" = some false := by decide +kernel
theorem k_ni : kitB "NoneType" "int" = some false := by decide +kernel
theorem k_ns : kitB "NoneType" "str" = some false := by decide +kernel
theorem k_nt : kitB "NoneType" "tuple" = some false := by decide +kernel
theorem k_nl : kitB "NoneType" "list" = some false := by decide +kernel
theorem k_nb : kitB "NoneType" "bool" = some false := by decide +kernel
theorem k_it : kitB "int" "tuple" = some false := by decide +kernel
theorem k_il : kitB "int" "list" = some false := by decide +kernel
theorem k_st : kitB "str" "tuple" = some false := by decide +kernel
theorem k_sl : kitB "str" "list" = some false := by decide +kernel
theorem i_int {T : String} (h : kitB "int" T = some b) (q : Q (.bl b) H) : gIsi K [.int n, .ty T] H Q := i_ty (.base (.int n)) h q
theorem i_str {T : String} (h : kitB "str" T = some b) (q : Q (.bl b) H) : gIsi K [.str s, .ty T] H Q := i_ty (.base (.str s)) h q
theorem i_bl {T : String} {c : Bool} (h : kitB "bool" T = some b) (q : Q (.bl b) H) : gIsi K [.bl c, .ty T] H Q := i_ty (.base (.bl c)) h q
theorem i_non {T : String} (h : kitB "NoneType" T = some b) (q : Q (.bl b) H) : gIsi K [.non, .ty T] H Q := i_ty (.base .non) h q
theorem i_lst {T : String} {e : Nat} (S : Sep l H) (hi : l[e]? = some (At p (.lst xs))) (h : kitB "list" T = some b) (q : Q (.bl b) H) : gIsi K [.ref p, .ty T] H Q := i_ty (.base (.lst (S.at hi))) h q
theorem i_tup {T : String} {e : Nat} (S : Sep l H) (hi : l[e]? = some (Tp p xs)) (h : kitB "tuple" T = some b) (q : Q (.bl b) H) : gIsi K [.ref p, .ty T] H Q := i_ty (.base (.tup (S.tp hi))) h q
end
local macro_rules | `(tactic| walk_at "kb") => `(tactic| (first | exact k_ii | exact k_ib | exact k_is | exact k_ss | exact k_si | exact k_sb | exact k_bi | exact k_bb | exact k_bs | exact k_ll | exact k_lt | exact k_li | exact k_ls | exact k_tt | exact k_tl | exact k_ti | exact k_ts | exact k_ni | exact k_ns | exact k_nt | exact k_nl | exact k_nb | exact k_it | exact k_il | exact k_st | exact k_sl))
local macro_rules | `(tactic| walk_at "v1") => `(tactic| (first
  | ((with_reducible refine' i_int ?hb ?_); (case hb => walk_at "kb"))
  | ((with_reducible refine' i_str ?hb ?_); (case hb => walk_at "kb"))
  | ((with_reducible refine' i_bl ?hb ?_); (case hb => walk_at "kb"))
  | ((with_reducible refine' i_non ?hb ?_); (case hb => walk_at "kb"))
  | ((with_reducible refine' i_lst (by assumption) ?hi ?hb ?_); (case hi => walk_at "has"); (case hb => walk_at "kb"))
  | ((with_reducible refine' i_tup (by assumption) ?hi ?hb ?_); (case hi => walk_at "has"); (case hb => walk_at "kb"))))

/-! enumerate over a tuple; a def read off a class -/
section
open PyProof.Rows
theorem meets_enum1 {v : Value} {o : Obj} {H : Heap → Prop} (B : Begins v o H) :
    Meets (Builtin.«enumerate.__new__» ⟨[.type "enumerate", v], []⟩) (fun _ R s => H s.heap ∧
      R (.ok (.ret (.ref (s.heap.push o).objs.size))) { s with heap := (s.heap.push o).push { cls := .type "enumerate", data := .fields #[.none, .bool false, .ref s.heap.objs.size, rawInt 0, .none, .none] } }) :=
  .of_wp fun prog w A R s h => by
    obtain ⟨hp, g, d, tk, os⟩ := s; obtain ⟨h1, h⟩ := h
    have hsub := sub_enumerate
    have q1 : ∀ {A' : Around} {E : Value → Shared → Prop} {Q : Value → Shared → Prop}, Q (.ref hp.objs.size) ⟨hp.push o, g, d, tk, os⟩ → wpAny (model prog w) A' (pyIter v) Q E ⟨hp, g, d, tk, os⟩ :=
      fun q => B.iter prog w _ _ ⟨hp, g, d, tk, os⟩ _ h1 q
    wp_walk using q1
    refine wpAny_stack_any fun st => wpAny_pure ?_
    split
    · rename_i c _ _ _ _ _
      cases (c == Value.type "enumerate")
      · wp_walk using q1
        exact ⟨_, rfl, h⟩
      · wp_walk using q1
        exact ⟨_, rfl, h⟩
    · wp_walk using q1
      exact ⟨_, rfl, h⟩
theorem enum_begins1 {prog : Program} {w : World} {A : Around} {E : Value → Shared → Prop} {s : Shared} {v : Value} {o : Obj} {H : Heap → Prop} {Q : Value → Shared → Prop} (B : Begins v o H) (h1 : H s.heap)
    (h : ∀ h', IsEnum h' (s.heap.objs.size + 1) s.heap.objs.size 0 .none → h'.get? s.heap.objs.size = some o → h'.objs.size = s.heap.objs.size + 2 →
      (∀ b o, s.heap.get? b = some o → h'.get? b = some o) → Q (.ref (s.heap.objs.size + 1)) { s with heap := h' }) :
    wpAny (model prog w) A (call (.type "enumerate") [v]) Q E s := by
  refine callType_new F.called_enumerate (by decide) (F.typeCall_enumerate_1 _) (F.newCall_enumerate_1 _) (fun obj => F.args_object_init_2 obj _) F.entry_enumerate_new
    (meets_enum1 B) ⟨h1, ?_⟩
  have hz : (s.heap.push o).objs.size = s.heap.objs.size + 1 := Heap.size_push ..
  show _ ∧ _
  rw [hz]
  have he : IsEnum ((s.heap.push o).push { cls := .type "enumerate", data := .fields #[.none, .bool false, .ref s.heap.objs.size, rawInt 0, .none, .none] }) (s.heap.objs.size + 1) s.heap.objs.size 0 .none := by
    have := Heap.get?_push_size (s.heap.push o) (o := { cls := .type "enumerate", data := .fields #[.none, .bool false, .ref s.heap.objs.size, rawInt 0, .none, .none] }) rfl
    rw [hz] at this; exact this
  refine ⟨⟨_, he, rfl⟩, h _ he (Heap.get?_push_of_some _ (Heap.get?_push_size _ B.free)) (by rw [Heap.size_push, hz]) fun b o x => Heap.get?_push_of_some _ (Heap.get?_push_of_some _ x)⟩
/-- the tuple at a, the items in new pairs with their places -/
def IteT (K : PySem.W.Frag) (a : Addr) : It :=
  ⟨fun i H => ∃ (xs : List V) (x : V), SqT K H a xs ∧ xs[i]? = some x, fun i H v H' => ∃ T x, v = .ref T ∧ H T = none ∧ H' = upd H T (.tup [.int (i : Nat), x]) ∧ ∀ xs, SqT K H a xs → xs[i]? = some x, fun i H => ∃ xs : List V, SqT K H a xs ∧ xs.length ≤ i⟩
theorem turn_enumT {P : Program} {w : World} {K : PySem.W.Frag} {elts : List Expr} {kk : Nat} {tpos : Pos} (a e it : Addr) :
    Turn P w K (.Tuple elts kk tpos) (IteT K a) [e, it] e (fun i h => (∃ old, IsEnum h e it ((i : Nat) : Int) old) ∧ h.IsTupleIter it a i ∧ e ≠ it) where
  mem := by simp
  obj := fun i h st b hb => by
    obtain ⟨⟨old, he⟩, ⟨o, ho, hc, hd⟩, _⟩ := st
    have e' : b = e ∨ b = it := by simpa using hb
    rcases e' with z | z
    · rw [z]; exact ⟨_, he, fun v q => nomatch q⟩
    · rw [z]; exact ⟨o, ho, fun v q => by rw [hd] at q; cases q⟩
  keep := fun i h h' st k => let ⟨⟨old, he⟩, hi, hne⟩ := st; ⟨⟨old, k e (by simp) _ he⟩, hi.at fun o q => k it (by simp) o q, hne⟩
  item := by
    intro X hP hw hK hc i pins s σ H E I hf st hg
    subst hP hw hK
    obtain ⟨⟨old, he⟩, hit, hne⟩ := st
    obtain ⟨xs, x, hq, hx⟩ := hg
    obtain ⟨its, rv, p, hz⟩ := I.tuple hq
    have p' : s.heap.IsTuple a its.toArray := p
    obtain ⟨u, hu, ru⟩ := rv.get hx
    have hel : e < s.heap.objs.size := Heap.lt_size he
    have hil : it < s.heap.objs.size := by obtain ⟨_, q, _⟩ := hit; exact Heap.lt_size q
    have hea : e ≠ a := fun z => by
      obtain ⟨o, ho, hc', _⟩ := id p'
      rw [← z] at ho
      have := he.symm.trans ho
      cases this
      exact absurd (Value.type.inj hc') (by decide)
    have hia : a ≠ it := fun z => by
      obtain ⟨o, ho, hc', _⟩ := id p'
      obtain ⟨o2, ho2, hc2, _⟩ := id hit
      rw [z] at ho
      have q := ho.symm.trans ho2
      cases q
      rw [hc'] at hc2
      exact absurd (Value.type.inj hc2) (by decide)
    have D := Draws.tuple (prog := X.prog) (w := X.w) (A := X.A.in1) (I.ok.hd hc) it a hia its.toArray
    have hil' : i < its.toArray.size := by
      rw [List.size_toArray]
      exact (List.getElem?_eq_some_iff.mp hu).1
    refine wpAny_pyNext_enum_itemD D he ⟨hit, p'⟩ hil' hne (by simp [hne, hea]) fun y h' tk hy ho hst' hT hsz hk => ?_
    obtain rfl : y = u := by
      have e1 : its.toArray[i]? = some u := by simpa using hu
      rw [e1] at hy
      exact (Option.some.inj hy).symm
    refine ⟨_, rfl, wpAny_letOwnedTupleGo_enum (s := { s with heap := h', toks := tk + 1 }) ho fun h'' he' sb => ?_⟩
    have hT2 : h''.get? s.heap.objs.size = some { cls := .type "tuple", data := .seq #[.int i tk, y] } := (sb.2 _ (Nat.ne_of_gt hel)).trans hT
    have new : ObjOk X.prog X.w (upd H s.heap.objs.size (.tup [.int (i : Nat), x])) h'' s.heap.objs.size (.tup [.int (i : Nat), x]) :=
      ⟨by show 2 ≤ sizeLine; decide, [.int i tk, y], .cons ⟨_, rfl⟩ (.cons ru .nil), ⟨_, hT2, rfl, _, rfl⟩⟩
    have I1 : Inv X pins σ (upd H s.heap.objs.size (.tup [.int (i : Nat), x])) { s with heap := h'', toks := tk + 1 } :=
      I.turnedNew (ch := [e, it]) (fun b ob hb q => (sb.2 b (fun z => hb (by simp [z]))).trans (hk b ob (fun z => hb (by simp [z])) (fun z => hb (by simp [z])) q)) hf (Nat.le_refl _) new
    refine ⟨.ref s.heap.objs.size, _, I1, rfl, ⟨_, x, rfl, I.hok.fresh (Nat.le_refl _), rfl, fun ys hy => by rw [I.tuple_inj hy hq]; exact hx⟩, ⟨⟨y, ?_⟩, hst'.1.at fun o q => (sb.2 it (Ne.symm hne)).trans q, hne⟩, fun b hb => ?_⟩
    · have e1 : ((i + 1 : Nat) : Int) = (i : Int) + 1 := by omega
      rw [e1]; exact he'
    · have hb' : b < s.heap.objs.size := by
        have e' : b = e ∨ b = it := by simpa using hb
        rcases e' with z | z
        · rw [z]; exact hel
        · rw [z]; exact hil
      rw [upd_ne (Nat.ne_of_lt hb')]
      exact (hf b hb).1
  done := by
    intro X hP hw hK hc i pins s σ H E I hf st hg
    subst hP hw hK
    obtain ⟨⟨old, he⟩, hit, hne⟩ := st
    obtain ⟨xs, hq, hx⟩ := hg
    obtain ⟨its, rv, p, hz⟩ := I.tuple hq
    have p' : s.heap.IsTuple a its.toArray := p
    have hl := rv.length
    have hia : a ≠ it := fun z => by
      obtain ⟨o, ho, hc', _⟩ := id p'
      obtain ⟨o2, ho2, hc2, _⟩ := id hit
      rw [z] at ho
      have q := ho.symm.trans ho2
      cases q
      rw [hc'] at hc2
      exact absurd (Value.type.inj hc2) (by decide)
    obtain ⟨f0, f1, f2, f3, f4, f5⟩ := hf it (by simp)
    have hT : s.TypeIs (.ref e) "enumerate" := ⟨_, he, rfl⟩
    unfold pyNext
    refine wpAny_bind (wpAny_attempt (wpAny_callSpecial?_slot (name := Str.ofString "__next__") hT F.slot_enumerate_next
      (wpAny_call_entry F.slot_enumerate_next hT F.entry_enumerate_next ?_ (F.args_enumerate_next_1 _))))
    show wpAny _ _ (field (.ref e) 2 >>= _) _ _ _
    refine wpAny_bind (wpAny_field he rfl (x := .ref it) rfl ?_)
    refine wpAny_bind (wpAny_nextOf_tuple_end (I.ok.hd hc) hit p' (by simp; omega) fun h' x he' hx' => ?_)
    obtain ⟨o, ho, hc2⟩ := hx'
    refine wpAny_bind (wpAny_isInstance (T := "StopIteration") (b := true) ⟨o, ho, hc2⟩ isSubtype_stop ?_)
    exact wpAny_pure ⟨rfl, I.turned (t' := s.toks) (fun b o hb q => he' b o hb q) f0 f1 f3 f4 f5⟩
  self := fun A i s Q E st h => let ⟨⟨_, he⟩, _⟩ := st; wpAny_pyIter_enum he h
def iEnumT (K : PySem.W.Frag) (ta : TA) : TI := fun σ H R => ta σ H fun vs H1 => ∃ a xs, vs = [.ref a] ∧ SqT K H1 a xs ∧ R (IteT K a) H1
theorem pi_enumT {X : Cx} {K : PySem.W.Frag} (hK : X.K = K) {e : Expr} {ta : TA} {p pos tpos : Pos} {elts : List Expr} {kk : Nat} (hg : Gl X "enumerate") (hm : X.mg "enumerate" = none) (ha : PA X [e] ta) (hs : starEach [e] X.env = [(false, eval e X.env)] := by rfl) :
    PI X (.Tuple elts kk tpos) (.Call (.Name "enumerate" p) [e] [] pos) (iEnumT K ta) := by
  subst hK
  refine ⟨fun pins s σ H R I h => ?_⟩
  refine Call_ (ld_blt I hg hm boot_enumerate (PyProof.Rows.callWith_type1 (thn (ha.run pos pins s σ H _ I h) fun us s1 ⟨vs, H1, I1, r1, q1⟩ => ?_) hs rfl))
  obtain ⟨a, xs, ex, hq, q⟩ := q1
  subst ex
  cases r1 with
  | cons r rr =>
    cases rr
    cases r
    obtain ⟨its, rv, p', hz⟩ := I1.tuple hq
    refine enum_begins1 (begins_tuple a its.toArray) p' fun h' he hit hsz hk => wpAny_pyIter_enum he ?_
    have I2 : Inv X pins σ H1 { s1 with heap := h' } := I1.kept (t' := s1.toks) hk
    refine ⟨s1.heap.objs.size + 1, [s1.heap.objs.size + 1, s1.heap.objs.size], _, _, H1, rfl, I2, turn_enumT a (s1.heap.objs.size + 1) s1.heap.objs.size, ⟨⟨.none, he⟩, ⟨_, hit, rfl, rfl⟩, Nat.succ_ne_self _⟩, fun b hb => ?_, q⟩
    have e' : b = s1.heap.objs.size + 1 ∨ b = s1.heap.objs.size := by simpa using hb
    have hle : s1.heap.objs.size ≤ b := by
      rcases e' with z | z
      · rw [z]; exact Nat.le_add_right _ _
      · rw [z]; exact Nat.le_refl _
    exact I1.fpOk hle (I1.hok.fresh hle)
/-! C.m(e, ..), m a def of C's body -/
def tUnb (C : Addr) (sp : Sp) (E : XK) (ta : TE) (t : TA) : TE := fun σ H Q => ta σ H fun x H1 => x = .ref C ∧ t σ H1 fun vs H2 => sp vs H2 Q E
theorem pe_unb {X : Cx} {CX : CXT} {k : Nat} {C f : Addr} {mc : Value} {sp : Sp} {E : XK} {o e : Expr} {es : List Expr} {m : Str} {pos apos : Pos} {ta : TE} {t : TA} {pl : Sem Bool}
    (he : PE X o ta) (r : ClX.CRead X.K C mc) (at_ : PySem.W.findCls X.K (.ref C) mc m = some (.val (.ref f))) (kp : PySem.W.keepIn X.K (.ref f) = true) (F : FnR X.prog X.w X.K X.mg X.base CX k f sp) (hr : Room k X.A) (hx : Passes CX X E) (ha : PA X (e :: es) t)
    (hst : starEach (e :: es) X.env = (false, eval e X.env) :: starEach es X.env := by rfl) (hpl : (backTo pos (starEach es X.env)).any (·.1) = false := by rfl)
    (ht : eval (.Call (.Attribute o m apos) (e :: es) [] pos) X.env = (do
      let ov ← eval o X.env
      standAt apos.atName
      let (f, first) ← holding [ov] (getMethod ov m pl)
      callWith pos f first (backTo pos (starEach (e :: es) X.env)) (backToKw pos (keywordEach [] X.env))) := by rfl) :
    PE X (.Call (.Attribute o m apos) (e :: es) [] pos) (tUnb C sp E ta t) := by
  refine ⟨fun pins s σ H Q I h => ?_⟩
  refine PySem.W.methodCall_KW (pl := pl) (thn (he.run pins s σ H _ I h) fun u s1 ⟨x, H1, I1, rx, ex, q⟩ => ?_) ht
  subst ex
  obtain rfl : u = Value.ref C := rx
  refine PySem.W.method_cls I1.kIn r.ga ?_
  refine PySem.W.cls_value I1.kIn r.rd at_ (handed_of (v := .ref f) rfl) ?_
  refine PySem.W.callWith_K (h₀ := X.base) I1.ok.mod.kin kp (thn (ha.run pos pins _ σ H1 _ (I1.tok _) q) fun us s3 ⟨vs, H2, I3, rv, q2⟩ => ⟨I3.kIn, ?_⟩) hst hpl
  exact wpAny_call (run_fnR F hr hx I3 rv q2)

end
/-! instances -/
section
open PyProof.Rows
/-- an instance of the class at C -/
def Ob (p C : Addr) (fs : List (Str × V)) : Asn := Exs fun dx : Addr => Pk [At p (.ins C dx fs), At dx (.own p)]
structure Kl (K : PySem.W.Frag) (C : Addr) (ns : List Str) : Prop where
  c : Cls K C
  n : ∀ f ∈ ns, NoAttr K C f
/-- what isinstance asks of a class -/
structure Ki (K : PySem.W.Frag) (C : Addr) : Prop where
  ha : PySem.W.findIn K (.ref C) "__class__" = some (some (.builtin "object.__class__"))
  hn : PySem.W.specialIn K (.builtin "object.__class__") "__get__" = some (some (.builtin "getset_descriptor.__get__"))
  ht : PySem.W.takesIn K (.builtin "object.__class__") = some true
  hm : PySem.W.mroIn K C (.type "object") = some true
theorem lk0 {f : Str} {v : V} {r : List (Str × V)} : List.lookup f ((f, v) :: r) = some v := by
  show (match f == f with | true => some v | false => _) = _
  rw [beq_self_eq_true]
theorem lkS {f g : Str} {v x : V} {r : List (Str × V)} (h : (f == g) = false) (q : List.lookup f r = some v) : List.lookup f ((g, x) :: r) = some v := by
  show (match f == g with | true => some x | false => List.lookup f r) = _
  rw [h]; exact q
theorem putF0 {f : Str} {v : V} : putF f v [] = [(f, v)] := rfl
theorem putFS {f g : Str} {v x : V} {r : List (Str × V)} (h : ¬ g = f) : putF f v ((g, x) :: r) = (g, x) :: putF f v r := by
  show (if g = f then _ else _) = _
  rw [if_neg h]
theorem putFT {f g : Str} {v x : V} {r r2 : List (Str × V)} (h : ¬ g = f) (q : putF f v r = r2) : putF f v ((g, x) :: r) = (g, x) :: r2 := by rw [putFS h, q]
theorem putFE {f : Str} {v x : V} {r : List (Str × V)} : putF f v ((f, x) :: r) = (f, v) :: r := by
  show (if f = f then _ else _) = _
  rw [if_pos rfl]
section
variable {l : List Asn} {H : Hp} {p C dx : Addr} {fs : List (Str × V)} {f : Str} {v y : V} {Q : VK} {K : PySem.W.Frag} {ns : List Str} {e : Nat} {σ : L2.St}
theorem ob_open (S : Sep (Ob p C fs :: l) H) : ∃ dx, Sep (At p (.ins C dx fs) :: At dx (.own p) :: l) H := by
  obtain ⟨dx, S⟩ := S.ex
  exact ⟨dx, S.open'⟩
theorem ob_close (S : Sep (At p (.ins C dx fs) :: At dx (.own p) :: l) H) : Sep (Ob p C fs :: l) H := Sep.ex' (x := dx) (Sep.close' (l := [_, _]) S)
theorem ob_at (S : Sep l H) (hi : l[e]? = some (Ob p C fs)) : ∃ dx, H p = some (.ins C dx fs) := by
  obtain ⟨dx, S'⟩ := ob_open (S.pick hi)
  exact ⟨dx, S'.at (i := 0) rfl⟩
/-- an attribute is read -/
def gFldR (K : PySem.W.Frag) (f : Str) (x : V) (H : Hp) (Q : VK) : Prop := ∃ a C dx fs v, x = .ref a ∧ H a = some (.ins C dx fs) ∧ Cls K C ∧ NoAttr K C f ∧ fs.lookup f = some v ∧ Q v H
/-- an attribute is stored -/
def gFldW (K : PySem.W.Frag) (f : Str) (x y : V) (H : Hp) (R : Hp → Prop) : Prop := ∃ a C dx fs, x = .ref a ∧ H a = some (.ins C dx fs) ∧ Cls K C ∧ NoAttr K C f ∧ fs.length < 1000 ∧ R (upd H a (.ins C dx (putF f y fs)))
theorem f_get (S : Sep l H) (hi : l[e]? = some (Ob p C fs)) (hC : Kl K C ns) (hf : f ∈ ns) (hl : fs.lookup f = some v) (q : Q v H) :
    gFldR K f (.ref p) H Q := by
  obtain ⟨dx, h⟩ := ob_at S hi
  exact ⟨p, C, dx, fs, v, rfl, h, hC.c, hC.n f hf, hl, q⟩
theorem f_put {R : Hp → Prop} (S : Sep l H) (hi : l[e]? = some (Ob p C fs)) (hC : Kl K C ns) (hf : f ∈ ns) (hz : fs.length < 1000) {fs2 : List (Str × V)} (he : putF f y fs = fs2) (k : ∀ H', Sep (l.set e (Ob p C fs2)) H' → R H') :
    gFldW K f (.ref p) y H R := by
  obtain ⟨dx, S1⟩ := ob_open (S.pick hi)
  have h := S1.at (i := 0) rfl
  have S2 := S1.upd0 (o' := .ins C dx fs2) (fun _ z => nomatch z)
  rw [he.symm] at S2 k
  exact ⟨p, C, dx, fs, rfl, h, hC.c, hC.n f hf, hz, k _ (Sep.back hi (ob_close S2))⟩
theorem n_make {P : Addr → Hp → Prop} (S : Sep l H) (k : ∀ x H', Sep (Ob x C [] :: l) H' → P x H') : ∀ x dx, H x = none → H dx = none → dx ≠ x → P x (upd (upd H dx (.own x)) x (.ins C dx [])) := by
  intro x dx hx hdx hne
  refine k x _ (ob_close (dx := dx) ?_)
  have S1 := S.new (o := .own x) hdx
  have hx' : (upd H dx (.own x)) x = none := by rw [upd_ne (Ne.symm hne)]; exact hx
  exact S1.new hx'
theorem r_fldS {ta tv : TE} {nx bk ct : L2.St → Hp → Prop} {rt : VK} (q : tv σ H fun y H1 => ta σ H1 fun x H2 => gFldW K f x y H2 fun H3 => nx σ H3) :
    sFld K ta tv f ⟨nx, rt, bk, ct⟩ σ H := q
theorem r_fld {ta : TE} (q : ta σ H fun x H1 => gFldR K f x H1 Q) : tFld K ta f σ H Q := q
theorem ps_gFld {X : Cx} (hK : X.K = K) {o value : Expr} {pos' pos : Pos} {ta tv : TE} (ha : PE X o ta) (hv : PE X value tv) (hs : swapsWith value (some (.Attribute o f pos')) pos.line X.env = pure false) : PS X (.Assign [.Attribute o f pos'] value pos) (sFld K ta tv f) := by
  rw [← hK]; exact ps_fld ha hv hs
theorem r_make {sp : Sp} {E : XK} {t : TA} (q : t σ H fun vs H1 => ∀ x dx, H1 x = Option.none → H1 dx = Option.none → dx ≠ x → sp (V.ref x :: vs) (upd (upd H1 dx (.own x)) x (.ins C dx [])) (fun v H2 => v = .non ∧ Q (.ref x) H2) E) : StX.tMakeR C sp E t σ H Q := q
theorem r_unb {sp : Sp} {E : XK} {ta : TE} {t : TA} (q : ta σ H fun x H1 => x = .ref C ∧ t σ H1 fun vs H2 => sp vs H2 Q E) : tUnb C sp E ta t σ H Q := q
/-- isinstance(x, C), x an instance -/
theorem i_ob {D : Addr} {b : Bool} (S : Sep l H) (hi : l[e]? = some (Ob p C fs)) (hC : Kl K C ns) (ki : Ki K C) (hk : PySem.W.kitOne K (.ref C) (.ref D) = some b) (q : Q (.bl b) H) : gIsi K [.ref p, .ref D] H Q := by
  obtain ⟨dx, h⟩ := ob_at S hi
  exact i_one (.own D) (.base (.ins h hC.c ki.ha ki.hn ki.ht ki.hm)) hk q
theorem i_obT {T : String} {b : Bool} (S : Sep l H) (hi : l[e]? = some (Ob p C fs)) (hC : Kl K C ns) (ki : Ki K C) (hk : PySem.W.kitOne K (.ref C) (.type T) = some b) (q : Q (.bl b) H) : gIsi K [.ref p, .ty T] H Q := by
  obtain ⟨dx, h⟩ := ob_at S hi
  exact i_one (.ty T) (.base (.ins h hC.c ki.ha ki.hn ki.ht ki.hm)) hk q
end
end
local macro_rules | `(tactic| walk_at "lk") => `(tactic| (first | exact lk0 | exact lkS (by decide +kernel) lk0 | exact lkS (by decide +kernel) (lkS (by decide +kernel) lk0) | exact lkS (by decide +kernel) (lkS (by decide +kernel) (lkS (by decide +kernel) lk0)) | exact lkS (by decide +kernel) (lkS (by decide +kernel) (lkS (by decide +kernel) (lkS (by decide +kernel) lk0)))))
local macro_rules | `(tactic| walk_at "putF") => `(tactic| (first | exact putF0 | exact putFE | exact putFT (by decide +kernel) putF0 | exact putFT (by decide +kernel) putFE | exact putFT (by decide +kernel) (putFT (by decide +kernel) putF0) | exact putFT (by decide +kernel) (putFT (by decide +kernel) putFE) | exact putFT (by decide +kernel) (putFT (by decide +kernel) (putFT (by decide +kernel) putF0))))
local macro_rules | `(tactic| walk_at "v1") => `(tactic| (first
  | with_reducible refine r_fld ?_
  | with_reducible refine r_fldS ?_
  | with_reducible refine r_make ?_
  | with_reducible refine r_unb ?_
  | ((with_reducible refine' f_get (by assumption) ?hi ?hC ?hf ?hl ?_); (case hi => walk_at "has"); (case hC => assumption); (case hf => decide +kernel); (case hl => walk_at "lk"))
  | ((with_reducible refine' f_put (by assumption) ?hi ?hC ?hf ?hz ?he ?_); (case hi => walk_at "has"); (case hC => assumption); (case hf => decide +kernel); (case hz => (simp only [List.length_cons, List.length_nil]; decide)); (case he => walk_at "putF"); intro _ S; simp only [List.set] at S)))

/-! kinds -/
def abcS : Str := "abcdefghijklmnopqrstuvwxyz"
def sg (j : Nat) : Str := ⟨#[97 + j]⟩
def barredL : List Str := ["hold", "look", "do", "row", "one", "all", "new", "give", "take", "join", "other", "if", "and", "or", "then", "gone"]
def wordsL : List Str := ["self", "at", "to", "exactly", "least", "most", "from", "rule", "door", "limit", "begin", "store", "loose"]
theorem wordsL_wd : ∀ w ∈ wordsL, Wd w := by decide +kernel
def Kd (w : Str) : Prop := Wd w ∧ w ∉ barredL
instance (w : Str) : Decidable (Kd w) := by unfold Kd; infer_instance
theorem abc_at : ∀ j, j < 26 → abc[j]? = some (97 + j) := by decide +kernel
theorem abc_mem {c : Nat} : c ∈ abc ↔ 97 ≤ c ∧ c < 123 := by
  constructor
  · intro h
    have : ∀ c ∈ abc, 97 ≤ c ∧ c < 123 := by decide +kernel
    exact this c h
  · intro h
    have e := abc_at (c - 97) (by omega)
    have e2 : 97 + (c - 97) = c := by omega
    rw [e2] at e
    exact List.mem_of_getElem? e
theorem abc_index : ∀ j, j < 26 → Builtin.Str.occurrences abcS (sg j) 0 26 1 = [j] := by decide +kernel
theorem abcS_at {n : Int} {m : Nat} (e : n = (m : Int)) (hm : m < 26) : atI abcS.cps.toList n = some (97 + m) := by
  subst e
  have hl : abcS.cps.toList.length = 26 := by decide +kernel
  unfold atI ixN
  rw [if_pos (by omega), if_pos (by omega)]
  exact abc_at m hm
theorem str_inj {a b : Str} (h : a.cps.toList = b.cps.toList) : a = b := by
  cases a; cases b
  congr 1
  exact Array.toList_inj.1 h
/-- a word by its last sign -/
theorem word_split {w : Str} (h : Wd w) : ∃ (p : Str) (j : Nat), w = p ++ sg j ∧ j < 26 ∧ p.length ≤ 7 ∧ ∀ c ∈ p.cps.toList, c ∈ abc := by
  obtain ⟨h1, h2, h3⟩ := h
  have hl : w.cps.toList.length = w.length := by simp [Str.length]
  have hne : w.cps.toList ≠ [] := fun z => by rw [z] at hl; simp at hl; omega
  obtain ⟨j0, hj⟩ : ∃ c, c = w.cps.toList.getLast hne := ⟨_, rfl⟩
  have hm : j0 ∈ abc := by rw [hj]; exact h3 _ (List.getLast_mem hne)
  have hb := abc_mem.1 hm
  refine ⟨⟨w.cps.toList.dropLast.toArray⟩, j0 - 97, str_inj ?_, by omega, ?_, fun c hc => ?_⟩
  · rw [str_app]
    show w.cps.toList = w.cps.toList.dropLast.toArray.toList ++ [97 + (j0 - 97)]
    have e : 97 + (j0 - 97) = j0 := by omega
    rw [e, hj]
    exact (List.dropLast_concat_getLast hne).symm
  · show w.cps.toList.dropLast.toArray.size ≤ 7
    simp only [List.size_toArray, List.length_dropLast]
    omega
  · have hc' : c ∈ w.cps.toList.dropLast := by simpa using hc
    exact h3 c (List.dropLast_subset _ hc')
theorem word_join {p : Str} {j : Nat} (hj : j < 26) (hp : p.length ≤ 7) (hc : ∀ c ∈ p.cps.toList, c ∈ abc) : Wd (p ++ sg j) := by
  refine ⟨?_, ?_, fun c h => ?_⟩
  · rw [str_len_app]; show 1 ≤ p.length + 1; omega
  · rw [str_len_app]; show p.length + 1 ≤ 8; omega
  · rw [str_app] at h
    rcases List.mem_append.1 h with h | h
    · exact hc c h
    · have e : c = 97 + j := List.mem_singleton.1 h
      rw [abc_mem]; omega
theorem last_at {p : Str} {j : Nat} : atI (p ++ sg j).cps.toList (-1) = some (97 + j) := by
  rw [str_app]
  show atI (p.cps.toList ++ [97 + j]) (-1) = _
  unfold atI ixN
  rw [if_neg (by decide), if_pos (by simp; omega)]
  simp only [Option.bind_some, List.length_append, List.length_singleton]
  have e : ((-1 : Int) + ((p.cps.toList.length + 1 : Nat) : Int)).toNat = p.cps.toList.length := by omega
  rw [e, List.getElem?_append_right (Nat.le_refl _)]
  simp
theorem sIx_m1 (n : Nat) : HT.sIx (n + 1) (n + 1) (some (-1)) = n := by
  unfold HT.sIx
  simp
  omega
theorem cut_last {p : Str} {j : Nat} : cutS (p ++ sg j) none (some (-1)) = p := by
  apply str_inj
  unfold cutS
  have hl : (p ++ sg j).length = p.cps.toList.length + 1 := by rw [str_len_app]; simp [Str.length]; rfl
  rw [hl, sIx_m1, HT.sIx_none, str_app]
  simp
theorem pre_inj {p : Str} {a b : Nat} (h : p ++ sg a = p ++ sg b) : a = b := by
  have e := congrArg (fun x : Str => x.cps.toList) h
  simp only [str_app] at e
  have e2 := List.append_cancel_left e
  have e3 : 97 + a = 97 + b := by
    have := List.cons.inj e2
    exact this.1
  omega
theorem nodup_le {α : Type} [DecidableEq α] : ∀ {l m : List α}, l.Nodup → (∀ x ∈ l, x ∈ m) → l.length ≤ m.length
  | [], m, _, _ => Nat.zero_le _
  | x :: l, m, hn, hs => by
    have hx := hs x List.mem_cons_self
    have hn' := List.nodup_cons.1 hn
    have ih := nodup_le (l := l) (m := m.erase x) hn'.2 fun y hy => by
      have hne : y ≠ x := fun z => hn'.1 (z ▸ hy)
      exact (List.mem_erase_of_ne hne).2 (hs y (List.mem_cons_of_mem _ hy))
    rw [List.length_erase_of_mem hx] at ih
    have : 0 < m.length := List.length_pos_of_mem hx
    show l.length + 1 ≤ m.length
    omega
/-- among 26 last signs one is free -/
theorem free_one {p : Str} {j0 : Nat} {m : List Str} (hm : m.length ≤ 25) (h : ∀ k, k < 26 → p ++ sg ((j0 + k) % 26) ∈ m) : False := by
  have hn : ((List.range 26).map fun k => p ++ sg ((j0 + k) % 26)).Nodup := by
    show List.Pairwise _ _
    rw [List.pairwise_map]
    refine List.Pairwise.imp_of_mem (R := fun a b => a ≠ b) (fun {a b} ha hb hab z => ?_) (List.nodup_range (n := 26))
    have e := pre_inj z
    have ha' := List.mem_range.1 ha
    have hb' := List.mem_range.1 hb
    omega
  have := nodup_le hn (m := m) fun x hx => by
    obtain ⟨k, hk, rfl⟩ := List.mem_map.1 hx
    exact h k (List.mem_range.1 hk)
  simp at this
  omega
theorem Sep.fr1' {A B : Asn} {l : List Asn} {H : Hp} {j : Nat} (e : l[j]? = some B) (S : Sep (A :: l) H) : Sep (A :: B :: l.eraseIdx j) H := (S.pick (i := j + 1) e).bk1
theorem Sep.bk1' {A B : Asn} {l : List Asn} {H : Hp} {j : Nat} (e : l[j]? = some B) (S : Sep (A :: B :: l.eraseIdx j) H) : Sep (A :: l) H := Sep.backS (l := A :: l) (i := j + 1) e S.fr1
section
variable {l : List Asn} {H : Hp} {p : Addr} {K : PySem.W.Frag} {Q : VK} {e : Nat} {xs : List V} {ws : List Str} {w : Str}
theorem flat_strs : ∀ ws : List Str, (ws.map V.str).all flatV = true
  | [] => rfl
  | _ :: ws => flat_strs ws
theorem eqV_str {a b : Str} : eqV (.str a) (.str b) = decide (a = b) := by
  show (a == b) = _
  by_cases h : a = b
  · rw [decide_eq_true h, h]; exact beq_self_eq_true b
  · rw [decide_eq_false h]; exact beq_eq_false_iff_ne.2 h
theorem inV_strs {w : Str} : ∀ ws : List Str, inV (.str w) (ws.map V.str) = decide (w ∈ ws)
  | [] => rfl
  | a :: ws => by
    show (eqV (.str a) (.str w) || inV (.str w) (ws.map V.str)) = _
    rw [inV_strs ws, eqV_str]
    by_cases h : a = w
    · simp [h]
    · have h' : ¬ w = a := fun z => h z.symm
      simp [h, h']
theorem in_strs (S : Sep l H) (hi : l[e]? = some (At p (.lst (ws.map V.str)))) (q : Q (.bl (decide (w ∈ ws))) H) : gIn K false (.str w) (.ref p) H Q :=
  .inl ⟨p, _, rfl, .inl (SqL.of (S.at hi)), rfl, flat_strs ws, by
    show Q (.bl (inV (.str w) (ws.map V.str))) H
    rw [inV_strs]; exact q⟩
theorem nin_strs (S : Sep l H) (hi : l[e]? = some (At p (.lst (ws.map V.str)))) (q : Q (.bl (!decide (w ∈ ws))) H) : gIn K true (.str w) (.ref p) H Q :=
  .inl ⟨p, _, rfl, .inl (SqL.of (S.at hi)), rfl, flat_strs ws, by
    show Q (.bl (!inV (.str w) (ws.map V.str))) H
    rw [inV_strs]; exact q⟩
theorem in_tups (h : SqT K H p (ws.map V.str)) (q : Q (.bl (decide (w ∈ ws))) H) : gIn K false (.str w) (.ref p) H Q :=
  .inl ⟨p, _, rfl, .inr h, rfl, flat_strs ws, by
    show Q (.bl (inV (.str w) (ws.map V.str))) H
    rw [inV_strs]; exact q⟩
theorem nin_tups (h : SqT K H p (ws.map V.str)) (q : Q (.bl (!decide (w ∈ ws))) H) : gIn K true (.str w) (.ref p) H Q :=
  .inl ⟨p, _, rfl, .inr h, rfl, flat_strs ws, by
    show Q (.bl (!inV (.str w) (ws.map V.str))) H
    rw [inV_strs]; exact q⟩
theorem m_tyS {R : Prop} (q : R) : tyV K "str" (.str w) H ∧ R := ⟨rfl, q⟩
def gSIndex : V → List V → Hp → VK → Prop := fun x xs H Q => ∃ a b i rest, x = .str a ∧ xs = [.str b] ∧ Builtin.Str.occurrences a b 0 a.length 1 = i :: rest ∧ Q (.int (i : Nat)) H
theorem mt_gSIndex {X : Cx} : MtR X "str.index" gSIndex := mt_sindex
theorem m_sindex {j : Nat} (hj : j < 26) (q : Q (.int (j : Nat)) H) : gSIndex (.str abcS) [.str (sg j)] H Q := ⟨abcS, sg j, j, [], rfl, rfl, abc_index j hj, q⟩
end

/-! constants, stars, tuples, all and any -/
section
open PyProof.Rows
theorem pe_globE {X : Cx} {x : Str} {v : V} {pos : Pos} (hg : Gl X x) (h : ∃ u, X.mg x = some u ∧ RelV v u) (hd : (x == ("__debug__" : Str)) = false := by decide) : PE X (.Name x pos) (tC v) :=
  h.elim fun _ h => pe_glob hg h.1 h.2 hd
/-- the promise of a def whose last parameter takes what is left over -/
def stSp (n : Nat) (sp : Sp) : Sp := fun vs H Q E => ∃ ws rest, vs = ws ++ rest ∧ ws.length = n ∧ rest.length ≤ sizeLine ∧ ∀ p, H p = Option.none → sp (ws ++ [V.ref p]) (upd H p (.tup rest)) Q E
theorem fun_star {P : Program} {w : World} {K : PySem.W.Frag} {mg : Str → Option Value} {base : Heap} {x qual : Str} {st : Stmt} {f : Addr} {fd : FuncData} {N ps : List Str} {pv : Str} {k : Nat} {sp : Sp} (F : Fun K x qual st f fd) (S : FnScope N (ps ++ [pv]) (defScope st))
    (hb : ∀ (kV doc pm : Value) (an : Option Addr) (cdv ct : Value) (us rest : List Value), us.length = ps.length → bindArgs (PySem.W.fnOf x qual (defArgs st) (defBody st) (defScope st) .none kV doc pm an cdv ct) ⟨us ++ rest, []⟩ = (newTuple rest >>= fun t => pure (ps.zip us ++ [(pv, t)])))
    (hbody : ∀ (cdv : Value) (A : Around) (outer : List Env) (s : Shared) (H : Hp) (vs : List V) (Q : VK) (E : XK), Room k (A.deeper (envOfC qual (defScope st) s.heap.objs.size f cdv)) → sp vs H Q E →
      ∃ t, PSs (cxOf CX0 P w K mg base N qual (defScope st) f cdv A outer s H E).nox (defBody st) t ∧ t { nx := fun _ H' => Q .non H', rt := Q } (start N vs) H) : FnR P w K mg base CX0 (k + 1) f (stSp ps.length sp) := by
  obtain ⟨oc, od, kV, doc, pm, an, cdv, ct, osl, rfl, lk, hcd⟩ := F.ex
  refine StX.fn_star lk hcd S StX.cxUp_none (hb kV doc pm an cdv ct) fun A outer s H vs Q E hr hsp => ?_
  obtain ⟨t, h, q⟩ := hbody cdv A outer s H vs Q E hr hsp
  exact ⟨t, h.nox, q⟩
theorem raw0 {P : Program} {w : World} {K : PySem.W.Frag} {mg : Str → Option Value} {base : Heap} {CX : CXT} {k : Nat} {f : Addr} {fd : FuncData} {ps : List Str} {sp : Sp} (F : FnOk P w K mg base CX k f fd ps sp) (hb : Binds K fd ps []) : FnR P w K mg base CX k f sp :=
  (F.raw hb .nil).imp fun vs H Q E h => by rw [List.append_nil]; exact h
theorem StX.bind_star3 {B : List Value → Sem (List (Str × Value))} {p1 p2 p3 pv : Str} (h0 : ∀ a b c, B [a, b, c] = (newTuple [] >>= fun t => pure [(p1, a), (p2, b), (p3, c), (pv, t)])) (h1 : ∀ a b c r rs, B (a :: b :: c :: r :: rs) = (newTuple (r :: rs) >>= fun t => pure [(p1, a), (p2, b), (p3, c), (pv, t)])) :
    ∀ us rest : List Value, us.length = [p1, p2, p3].length → B (us ++ rest) = (newTuple rest >>= fun t => pure ([p1, p2, p3].zip us ++ [(pv, t)]))
  | [a, b, c], [], _ => h0 a b c
  | [a, b, c], r :: rs, _ => h1 a b c r rs
section
variable {l : List Asn} {H : Hp} {p : Addr} {K : PySem.W.Frag} {Q : VK} {e : Nat} {xs : List V} {E : XK} {σ : L2.St} {g : TG} {tb : TS} {nx bk ct : L2.St → Hp → Prop} {rt : VK} {te : TE} {tA : TA}
/-- a call with something left over -/
theorem st_call {ws rest : List V} {sp : Sp} (S : Sep l H) (hz : rest.length ≤ 1000) (k : ∀ t H', Sep (Tp t rest :: l) H' → sp (ws ++ [V.ref t]) H' Q E) : stSp ws.length sp (ws ++ rest) H Q E :=
  ⟨ws, rest, rfl, rfl, Nat.le_trans hz (by decide), fun t ht => k t _ (S.newT ht)⟩
theorem sl_gTup {X : Cx} (hK : X.K = K) : SlR X (rSlT K) := by rw [← hK]; exact sl_tup
theorem s_tup {lo hi : Option Int} (S : Sep l H) (he : l[e]? = some (Tp p xs)) (hw : ¬ (HT.sIx xs.length 0 lo = 0 ∧ HT.sIx xs.length xs.length hi = xs.length)) (k : ∀ d H', Sep (Tp d (cutV xs lo hi) :: l) H' → Q (.ref d) H') : rSlT K (.ref p) lo hi H Q :=
  ⟨p, xs, rfl, SqT.of (S.tp he), hw, fun d hd => k d _ (S.newT hd)⟩
def gTuple (K : PySem.W.Frag) : List V → Hp → VK → Prop := fun xs H Q => ∃ p ys, xs = [.ref p] ∧ ((SqL K H p ys ∧ ∀ l, H l = none → Q (.ref l) (upd H l (.tup ys))) ∨ (SqT K H p ys ∧ Q (.ref p) H))
theorem call_gTuple {X : Cx} (hK : X.K = K) : CallR X (.type "tuple") (gTuple K) := by rw [← hK]; exact call_tuple_of
theorem c_tupT (S : Sep l H) (hi : l[e]? = some (Tp p xs)) (q : Q (.ref p) H) : gTuple K [.ref p] H Q := ⟨p, xs, rfl, .inr ⟨SqT.of (S.tp hi), q⟩⟩
theorem c_tupL (S : Sep l H) (hi : l[e]? = some (At p (.lst xs))) (k : ∀ d H', Sep (Tp d xs :: l) H' → Q (.ref d) H') : gTuple K [.ref p] H Q := ⟨p, xs, rfl, .inl ⟨SqL.of (S.at hi), fun d hd => k d _ (S.newT hd)⟩⟩
def gAll (K : PySem.W.Frag) : List V → Hp → VK → Prop := rAll K
def gAny (K : PySem.W.Frag) : List V → Hp → VK → Prop := rAny K
theorem call_gAll {X : Cx} (hK : X.K = K) (hc : X.calm = true) : CallR X (.builtin "all") (gAll K) := by rw [← hK]; exact cr_all hc
theorem call_gAny {X : Cx} (hK : X.K = K) (hc : X.calm = true) : CallR X (.builtin "any") (gAny K) := by rw [← hK]; exact cr_any hc
theorem c_all {bs : List Bool} (S : Sep l H) (hi : l[e]? = some (At p (.lst (bs.map V.bl)))) (q : Q (.bl (bs.all id)) H) : gAll K [.ref p] H Q := ⟨p, bs, rfl, SqL.of (S.at hi), q⟩
theorem c_any {bs : List Bool} (S : Sep l H) (hi : l[e]? = some (At p (.lst (bs.map V.bl)))) (q : Q (.bl (bs.any id)) H) : gAny K [.ref p] H Q := ⟨p, bs, rfl, SqL.of (S.at hi), q⟩
theorem in_sign {c : Nat} {z : Str} (q : Q (.bl (decide (c ∈ z.cps.toList))) H) : gIn K false (.str ⟨#[c]⟩) (.str z) H Q := .inr ⟨c, z, rfl, rfl, q⟩
/-- for x in t, t a tuple -/
theorem forT (S : Sep l H) (hi : l[e]? = some (Tp p xs)) (Pv : Nat → L2.St → Hp → Prop) (h0 : Pv 0 σ H) (hl : ∀ i σ H, Pv i σ H → H p = some (.tup xs))
    (hs : ∀ i x σ H, xs[i]? = some x → Pv i σ H → g x σ H fun σ2 H2 => tb ⟨Pv (i + 1), rt, nx, Pv (i + 1)⟩ σ2 H2) (hd : ∀ σ H, Pv xs.length σ H → nx σ H) :
    ∃ a, V.ref p = .ref a ∧ (∃ xs, SqT K H a xs) ∧ ForB (Itt K a) g tb ⟨nx, rt, bk, ct⟩ σ H :=
  ⟨p, rfl, ⟨xs, SqT.of (S.tp hi)⟩, for_tup (K := K) (D := ⟨nx, rt, bk, ct⟩) Pv h0 (fun i σ H _ q => SqT.of (hl i σ H q)) hs hd⟩
theorem r_forET (q : tA σ H fun vs H1 => ∃ a xs, vs = [.ref a] ∧ SqT K H1 a xs ∧ ForB (IteT K a) g tb ⟨nx, rt, bk, ct⟩ σ H1) : tFor (iEnumT K tA) g tb ⟨nx, rt, bk, ct⟩ σ H := q
/-- for i, x in enumerate(t), t a tuple -/
theorem forET (S : Sep l H) (hi : l[e]? = some (Tp p xs)) (Pv : Nat → L2.St → Hp → Prop) (h0 : Pv 0 σ H) (hl : ∀ i σ H, Pv i σ H → H p = some (.tup xs))
    (hs : ∀ i x T σ H H', xs[i]? = some x → Pv i σ H → H T = none → H' = upd H T (.tup [.int (i : Nat), x]) → g (.ref T) σ H' fun σ2 H2 => tb ⟨Pv (i + 1), rt, nx, Pv (i + 1)⟩ σ2 H2) (hd : ∀ σ H, Pv xs.length σ H → nx σ H) :
    ∃ a ys, [V.ref p] = [.ref a] ∧ SqT K H a ys ∧ ForB (IteT K a) g tb ⟨nx, rt, bk, ct⟩ σ H := by
  refine ⟨p, xs, rfl, SqT.of (S.tp hi), fun i m σ H => m = xs.length - i ∧ i ≤ xs.length ∧ Pv i σ H, ⟨xs.length, by simp, Nat.zero_le _, h0⟩, ?_⟩
  rintro i m σ H ⟨rfl, hi, q⟩
  have hq : SqT K H p xs := SqT.of (hl i σ H q)
  by_cases hlt : i < xs.length
  · refine .inr ⟨⟨xs, xs[i], hq, by simp [hlt]⟩, Pv (i + 1), fun σ' H' p' => ⟨xs.length - (i + 1), by omega, rfl, hlt, p'⟩, fun x H' y => ?_⟩
    obtain ⟨T, z, rfl, hn, rfl, f⟩ := y
    exact hs i z T σ H _ (f xs hq) q hn rfl
  · have e : i = xs.length := by omega
    subst e
    exact .inl ⟨⟨xs, hq, Nat.le_refl _⟩, hd σ H q⟩
end
end
local macro_rules | `(tactic| walk_at "v1") => `(tactic| (first
  | with_reducible refine r_forET ?_
  | with_reducible refine in_sign ?_
  | ((with_reducible refine' c_tupT (by assumption) ?hi ?_); (case hi => walk_at "has"))
  | ((with_reducible refine' c_tupL (by assumption) ?hi ?_); (case hi => walk_at "has"); intro _ _ _)
  | ((with_reducible refine' in_strs (by assumption) ?hi ?_); (case hi => walk_at "has"))
  | ((with_reducible refine' nin_strs (by assumption) ?hi ?_); (case hi => walk_at "has"))
  | ((with_reducible refine' c_all (by assumption) ?hi ?_); (case hi => walk_at "has"))
  | ((with_reducible refine' c_any (by assumption) ?hi ?_); (case hi => walk_at "has"))))

/-! rules -/
/-- the numbers of a rule -/
def Ends (ns : List Int) : Prop := (∀ n ∈ ns, 0 ≤ n ∧ n ≤ 9) ∧ ((∃ a, ns = [a]) ∨ ∃ a b, ns = [a, b] ∧ a ≤ b)
def Kds (ks : List Str) : Prop := 1 ≤ ks.length ∧ ks.length ≤ 3 ∧ ks.Nodup ∧ ∀ w ∈ ks, Kd w
theorem cut_pre {xs : List V} {i : Nat} (h : i ≤ xs.length) : cutV xs none (some (i : Int)) = xs.take i := by
  unfold cutV
  rw [HT.sIx_none, HT.sIx_nat, Nat.min_eq_left h, Nat.sub_zero]
  rfl
theorem Kd.len {w : Str} (h : Kd w) : w.length ≤ 8 := h.1.2.1
/-- a rule at p -/
def Ru (p C : Addr) (a b : V) (ks : List V) : Asn := Exs fun t : Addr => Pk [Ob p C [("least", a), ("most", b), ("kinds", .ref t)], Tp t ks]
theorem ru_open {p C : Addr} {a b : V} {ks : List V} {l : List Asn} {H : Hp} (S : Sep (Ru p C a b ks :: l) H) : ∃ t, Sep (Ob p C [("least", a), ("most", b), ("kinds", .ref t)] :: Tp t ks :: l) H := by
  obtain ⟨t, S⟩ := S.ex
  exact ⟨t, S.open'⟩
theorem ru_close {p C t : Addr} {a b : V} {ks : List V} {l : List Asn} {H : Hp} (S : Sep (Ob p C [("least", a), ("most", b), ("kinds", .ref t)] :: Tp t ks :: l) H) : Sep (Ru p C a b ks :: l) H := Sep.ex' (x := t) (Sep.close' (l := [_, _]) S)
abbrev rNs : List Str := ["least", "most", "kinds"]

/-! equality of data -/
def dStrs (ws : List Str) : List PyData := ws.map PyData.str
theorem shaped_all {ds : List PyData} (h : ∀ d ∈ ds, d.canLay0 = true ∧ d.depth = 0) : PyData.canLayAll0 ds = true ∧ PyData.depthAll ds = 0 := by
  induction ds with
  | nil => exact ⟨rfl, rfl⟩
  | cons d ds ih =>
    obtain ⟨h1, h2⟩ := h d List.mem_cons_self
    obtain ⟨i1, i2⟩ := ih fun x hx => h x (List.mem_cons_of_mem _ hx)
    refine ⟨by rw [PyData.canLayAll0, h1, i1]; rfl, ?_⟩
    rw [PyData.depthAll, h2, i2]; rfl
theorem shaped_tup {ds : List PyData} (h : ∀ d ∈ ds, d.canLay0 = true ∧ d.depth = 0) : SeqAt.shaped (.tuple ds) = true := by
  obtain ⟨h1, h2⟩ := shaped_all h
  unfold SeqAt.shaped
  rw [PyData.canLay0, h1, PyData.depth, h2]; rfl
theorem shaped_lst {ds : List PyData} (h : ∀ d ∈ ds, d.canLay0 = true ∧ d.depth = 0) : SeqAt.shaped (.list ds) = true := by
  obtain ⟨h1, h2⟩ := shaped_all h
  unfold SeqAt.shaped
  rw [PyData.canLay0, h1, PyData.depth, h2]; rfl
theorem strOk_word {w : Str} (h : Wd w) : PyData.strOk w = true := by
  unfold PyData.strOk
  rw [← Array.all_toList, List.all_eq_true]
  intro c hc
  have := abc_mem.1 (h.2.2 c hc)
  exact decide_eq_true (by omega)
theorem flat_dstrs {ws : List Str} (h : ∀ w ∈ ws, Wd w) : ∀ d ∈ dStrs ws, d.canLay0 = true ∧ d.depth = 0 := by
  intro d hd
  obtain ⟨w, hw, rfl⟩ := List.mem_map.1 hd
  exact ⟨by rw [PyData.canLay0]; exact strOk_word (h w hw), by rw [PyData.depth]⟩
theorem eqv_dstrs : ∀ ws us : List Str, PyData.eqvAll (dStrs ws) (dStrs us) = decide (ws = us)
  | [], [] => by simp [dStrs, PyData.eqvAll]
  | [], _ :: _ => by simp [dStrs, PyData.eqvAll]
  | _ :: _, [] => by simp [dStrs, PyData.eqvAll]
  | a :: ws, b :: us => by
    show PyData.eqvAll (.str a :: dStrs ws) (.str b :: dStrs us) = _
    rw [PyData.eqvAll, eqv_dstrs ws us, PyData.eqv]
    by_cases h : a = b
    · by_cases h2 : ws = us <;> simp [h, h2]
    · simp [h]
theorem dp_strs {K : PySem.W.Frag} {H : Hp} : ∀ ws : List Str, DpAll K H (ws.map V.str) (dStrs ws)
  | [] => .nil
  | w :: ws => .cons (.str w) (dp_strs ws)
theorem dp_bools {K : PySem.W.Frag} {H : Hp} : ∀ bs : List Bool, DpAll K H (bs.map V.bl) (bs.map PyData.bool)
  | [] => .nil
  | w :: ws => .cons (.bl w) (dp_bools ws)
theorem flat_bools {bs : List Bool} : ∀ d ∈ bs.map PyData.bool, d.canLay0 = true ∧ d.depth = 0 := by
  intro d hd
  obtain ⟨w, hw, rfl⟩ := List.mem_map.1 hd
  exact ⟨by rw [PyData.canLay0], by rw [PyData.depth]⟩
theorem eqv_bools : ∀ bs cs : List Bool, PyData.eqvAll (bs.map PyData.bool) (cs.map PyData.bool) = decide (bs = cs)
  | [], [] => by simp [PyData.eqvAll]
  | [], _ :: _ => by simp [PyData.eqvAll]
  | _ :: _, [] => by simp [PyData.eqvAll]
  | a :: ws, b :: us => by
    show PyData.eqvAll (.bool a :: ws.map PyData.bool) (.bool b :: us.map PyData.bool) = _
    rw [PyData.eqvAll, eqv_bools ws us, PyData.eqv]
    by_cases h : a = b
    · by_cases h2 : ws = us <;> simp [h, h2]
    · simp [h]
section
variable {l : List Asn} {H : Hp} {p p2 : Addr} {K : PySem.W.Frag} {Q : VK} {e e2 : Nat} {ws us : List Str} {bs cs : List Bool}
theorem eq_tups (S : Sep l H) (hi : l[e]? = some (Tp p (ws.map V.str))) (hj : l[e2]? = some (Tp p2 (us.map V.str))) (h1 : ∀ w ∈ ws, Wd w) (h2 : ∀ w ∈ us, Wd w) (q : Q (.bl (decide (ws = us))) H) : gEq K (.ref p) (.ref p2) H Q :=
  .inr ⟨.tuple (dStrs ws), .tuple (dStrs us), .tup (SqT.of (S.tp hi)) (dp_strs ws), .tup (SqT.of (S.tp hj)) (dp_strs us), shaped_tup (flat_dstrs h1), shaped_tup (flat_dstrs h2), by rw [PyData.eqv, eqv_dstrs]; exact q⟩
theorem ne_tups (S : Sep l H) (hi : l[e]? = some (Tp p (ws.map V.str))) (hj : l[e2]? = some (Tp p2 (us.map V.str))) (h1 : ∀ w ∈ ws, Wd w) (h2 : ∀ w ∈ us, Wd w) (q : Q (.bl (!decide (ws = us))) H) : gNe K (.ref p) (.ref p2) H Q :=
  .inr ⟨.tuple (dStrs ws), .tuple (dStrs us), .tup (SqT.of (S.tp hi)) (dp_strs ws), .tup (SqT.of (S.tp hj)) (dp_strs us), shaped_tup (flat_dstrs h1), shaped_tup (flat_dstrs h2), by rw [PyData.eqv, eqv_dstrs]; exact q⟩
theorem eq_bls (S : Sep l H) (hi : l[e]? = some (At p (.lst (bs.map V.bl)))) (hj : l[e2]? = some (At p2 (.lst (cs.map V.bl)))) (q : Q (.bl (decide (bs = cs))) H) : gEq K (.ref p) (.ref p2) H Q :=
  .inr ⟨.list (bs.map .bool), .list (cs.map .bool), .lst (SqL.of (S.at hi)) (dp_bools bs), .lst (SqL.of (S.at hj)) (dp_bools cs), shaped_lst flat_bools, shaped_lst flat_bools, by rw [PyData.eqv, eqv_bools]; exact q⟩
theorem ne_bls (S : Sep l H) (hi : l[e]? = some (At p (.lst (bs.map V.bl)))) (hj : l[e2]? = some (At p2 (.lst (cs.map V.bl)))) (q : Q (.bl (!decide (bs = cs))) H) : gNe K (.ref p) (.ref p2) H Q :=
  .inr ⟨.list (bs.map .bool), .list (cs.map .bool), .lst (SqL.of (S.at hi)) (dp_bools bs), .lst (SqL.of (S.at hj)) (dp_bools cs), shaped_lst flat_bools, shaped_lst flat_bools, by rw [PyData.eqv, eqv_bools]; exact q⟩
/-! rules -/
variable {C : Addr} {a b : V} {ks : List V}
theorem ru_least {f : Str} (hf : f = "least") (S : Sep l H) (hi : l[e]? = some (Ru p C a b ks)) (hC : Kl K C rNs) (q : Q a H) : gFldR K f (.ref p) H Q := by
  subst hf
  obtain ⟨t, S1⟩ := ru_open (S.pick hi)
  exact f_get S1 has0 hC (by decide +kernel) (by walk_at "lk") q
theorem ru_most {f : Str} (hf : f = "most") (S : Sep l H) (hi : l[e]? = some (Ru p C a b ks)) (hC : Kl K C rNs) (q : Q b H) : gFldR K f (.ref p) H Q := by
  subst hf
  obtain ⟨t, S1⟩ := ru_open (S.pick hi)
  exact f_get S1 has0 hC (by decide +kernel) (by walk_at "lk") q
theorem ru_kinds {f : Str} (hf : f = "kinds") (S : Sep l H) (hi : l[e]? = some (Ru p C a b ks)) (hC : Kl K C rNs) (k : ∀ t, Sep (Tp t ks :: l) H → Q (.ref t) H) : gFldR K f (.ref p) H Q := by
  subst hf
  obtain ⟨t, S1⟩ := ru_open (S.pick hi)
  exact f_get S1 has0 hC (by decide +kernel) (by walk_at "lk") (k t (S.addT (S1.tp (i := 1) rfl)))
end
theorem Sep.dropN : ∀ (n : Nat) {l : List Asn} {H : Hp}, Sep l H → Sep (l.drop n) H
  | 0, _, _, S => S
  | _ + 1, [], _, S => S
  | n + 1, _ :: _, _, S => Sep.dropN n S.tail
theorem Sep.keep {l : List Asn} {H : Hp} (S : Sep l H) : ∃ L, L = l ∧ Sep L H := ⟨l, rfl, S⟩
local macro_rules | `(tactic| walk_at "hasR") => `(tactic| (first | with_reducible exact has0 | ((with_reducible refine' hasS ?h2); (case h2 => walk_at "hasR")) | fail "has"))
local macro_rules | `(tactic| walk_at "hasD") => `(tactic| (first | exact has0 | ((with_reducible refine' hasS ?h2); (case h2 => walk_at "hasD")) | fail "has"))
local macro_rules | `(tactic| walk_at "has") => `(tactic| (first | walk_at "hasR" | walk_at "hasD" | fail "has"))
local macro_rules | `(tactic| walk_at "v1") => `(tactic| (first
  | ((with_reducible refine' ru_least ?hf (by assumption) ?hi ?hC ?_); (case hf => decide +kernel); (case hi => walk_at "has"); (case hC => assumption))
  | ((with_reducible refine' ru_most ?hf (by assumption) ?hi ?hC ?_); (case hf => decide +kernel); (case hi => walk_at "has"); (case hC => assumption))
  | ((with_reducible refine' ru_kinds ?hf (by assumption) ?hi ?hC ?_); (case hf => decide +kernel); (case hi => walk_at "has"); (case hC => assumption); intro _ _)))

/-! sorted by key=str: of a dict's keys, a tuple, a list -/
section
open PyProof.Rows
abbrev byStr : Str → Str → Bool := PySem.W.dataLe false (fun w : Str => PyData.str w)
theorem byStr_pairs (ks : List Str) : sortedS (ks.mergeSort byStr) = true := by
  refine sortedS_of_pairwise _ ?_
  have h := PySem.W.sort_pairwise (PySem.W.sortLe_total (listOrd itemOrd) false fun w : Str => PySem.W.keyToks (PyData.str w)) ks
  refine h.imp fun {a b} hab => ?_
  have e : byStr a b = decide (a.cps.toList ≤ b.cps.toList) := congrFun (congrFun (PySem.W.dataLe_str fun w : Str => w) a) b
  have hab' : byStr a b = true := hab
  rw [e] at hab'
  rw [ltCps_eq]
  exact decide_eq_false (List.not_lt.2 (of_decide_eq_true hab'))
section
variable {prog : Program} {w : World} {A : Around} {E : Value → Shared → Prop} {s : Shared}
theorem each_of_vals : ∀ {ks : List Str} {vs : List Value}, Vals (ks.map V.str) vs → PySem.W.EachIs (fun v (x : Str) => RelV (.str x) v) vs ks
  | [], [], _ => .nil
  | k :: ks, v :: vs, .cons r rr => .cons r (each_of_vals rr)
theorem vals_of_each : ∀ {vs : List Value} {ks : List Str}, PySem.W.EachIs (fun v (x : Str) => RelV (.str x) v) vs ks → Vals (ks.map V.str) vs
  | _, _, .nil => .nil
  | _, _, .cons r rr => .cons r (vals_of_each rr)
theorem ls_key {a : Addr} {n : Nat} {vs : List Value} {ks : List Str} {Q : Value → Shared → Prop} (ho : s.heap.get? a = some (seqObj "list" vs.toArray n)) (r : Vals (ks.map V.str) vs) (hL : ks.length ≤ sizeLine) (hu : A.units + 1 < cLine)
    (h : ∀ out c h' tk ys, PySem.W.KeepsBut a s.heap h' → h'.get? a = some (seqObj "list" (List.toArray out) c) → ys.Perm ks → sortedS ys = true → Vals (ys.map V.str) out → Q .none { s with heap := h', toks := tk }) :
    wpAny (model prog w) A (call (.builtin "list.sort") [.ref a] [(Str.ofString "key", .type "str")]) Q E s := by
  refine PySem.W.list_sort_key_data (f := .type "str") (b := false) (fun x : Str => PyData.str x) ho (each_of_vals r) (fun d hd d' hd' => ?_) (.inr fun d hd => ?_) hL (fun x _ => ?_) (ksk_l1 _ _) rfl (fun v x hv hx h tk kp => ?_) fun out c h' tk kp hat hl e => ?_
  · obtain ⟨x, _, rfl⟩ := List.mem_map.1 hd
    obtain ⟨y, _, rfl⟩ := List.mem_map.1 hd'
    rfl
  · obtain ⟨x, _, rfl⟩ := List.mem_map.1 hd
    exact ⟨(fun z => nomatch z), (fun _ z => nomatch z)⟩
  · have e : (PyData.str x).depth = 0 := by rw [PyData.depth]
    show A.units + 1 + (PyData.str x).depth < cLine
    rw [e]; exact hu
  · obtain ⟨t, rfl⟩ := hv
    exact PySem.P.str_of_str ⟨h, tk, rfl, fun _ _ q => q, .str x t⟩
  · exact h out c h' tk _ kp hat (List.mergeSort_perm ks byStr) (byStr_pairs ks) (vals_of_each e)
/-- sorted of what is gathered as vs -/
theorem so_key {it : Value} {ks : List Str} {Q : Value → Shared → Prop} (hL : ks.length ≤ sizeLine) (hu : A.units + 3 < cLine)
    (hc : ∀ (P : List Value → Shared → Prop), (∀ (vs : List Value) (h' : Heap) (tk : Nat), (∀ b o, s.heap.get? b = some o → h'.get? b = some o) → Vals (ks.map V.str) vs → P vs { s with heap := h', toks := tk }) → wpAny (model prog w) A.in1 (collect it) P E s)
    (h : ∀ (h1 h2 : Heap) (tk : Nat) (ys : List Str) (out : List Value) (c : Nat), (∀ b o, s.heap.get? b = some o → h1.get? b = some o) → (∀ b o, h1.get? b = some o → h2.get? b = some o) → h2.get? h1.objs.size = some (seqObj "list" (List.toArray out) c) → ys.Perm ks → sortedS ys = true → Vals (ys.map V.str) out → Q (.ref h1.objs.size) { s with heap := h2, toks := tk }) :
    wpAny (model prog w) A (call (.builtin "sorted") [it] [(Str.ofString "key", .type "str")]) Q E s := by
  refine call_function_entry_kw kind_sorted plain_sorted entry_sorted (ksk_s1 _ _) ?_
  unfold Builtin.«sorted»
  refine wpAny_bind (m := checkCount "sorted" 1 1 _) (wpAny_pure ?_)
  refine wpAny_bind (hc _ fun vs h1 tk1 k1 r => ?_)
  have hl : vs.length = ks.length := by rw [← r.length, List.length_map]
  refine wpAny_bind (wpAny_newList ?_ (by rw [hl]; exact hL))
  have hoL : (h1.push (seqObj "list" vs.toArray 0)).get? h1.objs.size = some (seqObj "list" vs.toArray 0) := Heap.get?_push_size _ rfl
  show wpAny _ _ _ _ _ { s with heap := h1.push (seqObj "list" vs.toArray 0), toks := tk1 }
  refine wpAny_bind (wpAny_holding (ls_key (s := { s with heap := h1.push (seqObj "list" vs.toArray 0), toks := tk1 }) hoL r hL (show A.units + 1 + 1 < cLine by omega) fun out c h2 tk2 ys kp hat hp hs hv => ?_))
  have hn1 : h1.get? h1.objs.size = none := Heap.get?_none_of_le (Nat.le_refl _)
  exact wpAny_pure ⟨_, rfl, h h1 h2 tk2 ys out c k1 (fun b o q => kp b o (fun z => by rw [z, hn1] at q; cases q) (Heap.get?_push_of_some _ q)) hat hp hs hv⟩
end
section
variable {X : Cx}
/-- sorted(x, key=str): of a dict's keys, a tuple, a list of texts -/
def gSortK (K : PySem.W.Frag) : List V → List V → Hp → VK → Prop := fun vs zs H Q => ∃ (a : Addr) (ks : List Str), vs = [.ref a] ∧ zs = [.ty "str"] ∧ ks.length ≤ 1000 ∧
  ((∃ kvs, Rd H a (.dK kvs) ∧ kvs.map (·.1) = ks.map Sum.inr) ∨ SqT K H a (ks.map V.str) ∨ SqL K H a (ks.map V.str)) ∧
  ∀ ys p, ys.Perm ks → sortedS ys = true → H p = none → Q (.ref p) (upd H p (.lst (ys.map V.str)))
theorem call_gSortK {K : PySem.W.Frag} (hK : X.K = K) (hcalm : X.calm = true) (hu : X.A.units + 64 < cLine) : CallRK X (.builtin "sorted") [Str.ofString "key"] (gSortK K) := by
  subst hK
  intro pins s σ H vs zs us ws Q I r rz h
  obtain ⟨a, ks, rfl, rfl, h1000, ha, q⟩ := h
  obtain rfl := Vals.ref1 r
  obtain ⟨w1, rfl, e1⟩ := vals1 rz
  obtain rfl : w1 = Value.type "str" := e1
  have hL : ks.length ≤ sizeLine := Nat.le_trans h1000 (by decide)
  refine so_key (s := s) (ks := ks) hL (show X.A.units + 3 < cLine by omega) (fun P k => ?_) fun h1 h2 tk ys out c k1 k2 hat hp hs hv => ?_
  · rcases ha with ⟨kvs, hd, hks⟩ | hT | hS
    · obtain ⟨z, lo, vs, rel, dd⟩ := dk_rd I.hok hd
      obtain ⟨ep, hat⟩ := dd.dictAt
      have hkeys : vs.map (·.1) = ks.map Sum.inr := rel.keys.symm.trans hks
      have hl : vs.length = ks.length := by
        have e := congrArg List.length hkeys
        rw [List.length_map, List.length_map] at e
        exact e
      have h16 : vs.length ≤ sizeLine := by rw [hl]; exact hL
      refine PySem.W.kdu_collect (A := X.A.in1) (PySem.W.kdl_dict (knd := mixKind X.prog X.w) (kvs := vs) (ep := ep) lo) (I.ok.hd hcalm) hat h16 fun h' tk acc hk hacc => ?_
      refine k _ _ _ hk ?_
      have e : ks.map V.str = vs.map fun p => kV p.1 := by
        have e1 : vs.map (fun p => kV p.1) = (vs.map (·.1)).map kV := by rw [List.map_map]; rfl
        rw [e1, hkeys, List.map_map]; rfl
      rw [e]
      exact keys_at (by rw [Array.length_toList, hacc.1]) fun j v ev => hacc.2 j v (by rw [← Array.getElem?_toList]; exact ev)
    · obtain ⟨its, rv, p, hz⟩ := I.tuple hT
      have p' : s.heap.IsTuple a its.toArray := p
      obtain ⟨o, ho, hc, n, hd⟩ := p'
      have hl := rv.length
      rw [List.length_map] at hl
      exact wpAny_collect_seq a (.inr rfl) ho hc hd (fun h' hk => k _ _ _ hk (by rw [show its.toArray.toList = its by simp]; exact rv)) (by rw [List.size_toArray]; omega)
    · obtain ⟨its, rv, p, hz⟩ := I.list hS
      obtain ⟨o, ho, hc, n, hd⟩ := p.isList
      have hl := rv.length
      rw [List.length_map] at hl
      exact wpAny_collect_seq a (.inl rfl) ho hc hd (fun h' hk => k _ _ _ hk (by rw [show its.toArray.toList = its by simp]; exact rv)) (by rw [List.size_toArray]; omega)
  · have I1 : Inv X pins σ H { s with heap := h1, toks := s.toks } := I.kept k1
    have hlen : (ys.map V.str).length ≤ sizeLine := by rw [List.length_map, hp.length_eq]; exact hL
    exact ⟨.ref h1.objs.size, upd H h1.objs.size (.lst (ys.map V.str)), I1.laid (t' := tk) k2 (Nat.le_refl _) (show ObjOk X.prog X.w _ _ _ (.lst (ys.map V.str)) from ⟨hlen, out, c, hv, hat⟩), rfl, q ys _ hp hs (I1.hok.fresh (Nat.le_refl _))⟩
end
/-! its step -/
section
variable {l : List Asn} {H : Hp} {p : Addr} {K : PySem.W.Frag} {Q : VK} {e : Nat} {ws : List Str}
theorem r_ckw {σ : L2.St} {r : List V → List V → Hp → VK → Prop} {t tk : TA} (q : t σ H fun vs H1 => tk σ H1 fun zs H2 => r vs zs H2 Q) : tCKw r t tk σ H Q := q
theorem sk_list (S : Sep l H) (hi : l[e]? = some (At p (.lst (ws.map V.str)))) (hz : ws.length ≤ 1000) (k : ∀ (ys : List Str) d H', ys.Perm ws → sortedS ys = true → Sep (At d (.lst (ys.map V.str)) :: l) H' → Q (.ref d) H') : gSortK K [.ref p] [.ty "str"] H Q :=
  ⟨p, ws, rfl, rfl, hz, .inr (.inr (SqL.of (S.at hi))), fun ys d hp hs hd => k ys d _ hp hs (S.new hd)⟩
theorem sk_tup (S : Sep l H) (hi : l[e]? = some (Tp p (ws.map V.str))) (hz : ws.length ≤ 1000) (k : ∀ (ys : List Str) d H', ys.Perm ws → sortedS ys = true → Sep (At d (.lst (ys.map V.str)) :: l) H' → Q (.ref d) H') : gSortK K [.ref p] [.ty "str"] H Q :=
  ⟨p, ws, rfl, rfl, hz, .inr (.inl (SqT.of (S.tp hi))), fun ys d hp hs hd => k ys d _ hp hs (S.new hd)⟩
theorem sk_dict {kvs : List (Key × V)} (S : Sep l H) (hi : l[e]? = some (At p (.dK kvs))) (hk : kvs.map (·.1) = ws.map Sum.inr) (hz : ws.length ≤ 1000) (k : ∀ (ys : List Str) d H', ys.Perm ws → sortedS ys = true → Sep (At d (.lst (ys.map V.str)) :: l) H' → Q (.ref d) H') : gSortK K [.ref p] [.ty "str"] H Q :=
  ⟨p, ws, rfl, rfl, hz, .inl ⟨kvs, .inl (S.at hi), hk⟩, fun ys d hp hs hd => k ys d _ hp hs (S.new hd)⟩
end
end
local macro_rules | `(tactic| walk_at "v1") => `(tactic| (with_reducible refine r_ckw ?_))

/-! a def whose only further parameter gathers keywords, called without any; an instance made without arguments -/
section
open PyProof.Rows
section
variable {CX : CXT} {P : Program} {w : World} {K : PySem.W.Frag} {mg : Str → Option Value} {base : Heap} {k : Nat} {f : Addr} {name qual : Str} {params : Arguments} {body : List Stmt} {scope : Scope} {dV kV doc pm cdv ct oc : Value} {an od : Option Addr}
  {osl : Array (Option Value)} {N ps : List Str} {sp : Sp}
theorem fn_kw0 {pd : Str} (lk : K.lookup f = some ⟨oc, od, .func (PySem.W.fnOf name qual params body scope dV kV doc pm an cdv ct), osl⟩) (hcd : PySem.W.codeIn K cdv qual = true) (S : FnScope N (ps ++ [pd]) scope) (hCX : StX.CXUp CX)
    (bind : ∀ us : List Value, us.length = ps.length → bindArgs (PySem.W.fnOf name qual params body scope dV kV doc pm an cdv ct) ⟨us, []⟩ = ((alloc ({ cls := .type "dict", data := .dict #[] } : Obj) : Sem Addr) >>= fun d => pure (ps.zip us ++ [(pd, Value.ref d)])))
    (walk : ∀ (A : Around) (outer : List Env) (s : Shared) (H : Hp) (vs : List V) (Q : VK) (E : XK), Room k (A.deeper (envOfC qual scope s.heap.objs.size f cdv)) → sp vs H Q E →
      ∃ t, PSs (cxOf CX P w K mg base N qual scope f cdv A outer s H E) body t ∧ t { nx := fun _ H' => Q .non H', rt := Q } (start N vs) H) :
    FnR P w K mg base CX (k + 1) f (fun vs H Q E => vs.length = ps.length ∧ ∀ d, H d = Option.none → sp (vs ++ [V.ref d]) (upd H d (.dK [])) Q E) := by
  rintro A outer s H us vs Q E hr e0 r ⟨hl, hq⟩
  have hn : H s.heap.objs.size = Option.none := e0.hok.fresh (Nat.le_refl _)
  have hlu : us.length = ps.length := by rw [← r.length]; exact hl
  refine StX.run_bnd lk hcd S hr e0 (G := fun xs H2 => ∃ d, H d = Option.none ∧ xs = vs ++ [V.ref d] ∧ H2 = upd H d (.dK [])) (fun A' Ex Q' h => ?_) (fun s2 H2 xs g hr' => ?_)
  · rw [bind us hlu]
    refine wpAny_bind (wpAny_alloc (wpAny_pure ?_))
    have un := StX.un_laid (fs := frs outer) (s := s) (o := ({ cls := .type "dict", data := .dict #[] } : Obj)) (u := .dK []) hn
    have e1 := StX.env0_laid (u := .dK []) (o := ({ cls := .type "dict", data := .dict #[] } : Obj)) e0 (dk_empty _ (StX.env0_big e0))
    have z := h _ _ (vs ++ [V.ref s.heap.objs.size]) (us ++ [Value.ref s.heap.objs.size]) e1 un rfl (fun e s' => hCX outer s H _ _ E e s' un (fun b o q => Heap.get?_push_of_some _ q) rfl) (r.append (.cons rfl .nil))
      (by rw [List.length_append, List.length_append, hl] <;> rfl) ⟨_, hn, rfl, rfl⟩
    rw [List.zip_append hlu.symm] at z
    exact z
  · obtain ⟨d, hd, rfl, rfl⟩ := g
    exact walk A outer s2 _ _ Q E hr' (hq d hd)
end
theorem fun_kw0 {P : Program} {w : World} {K : PySem.W.Frag} {mg : Str → Option Value} {base : Heap} {x qual : Str} {st : Stmt} {f : Addr} {fd : FuncData} {N ps : List Str} {pd : Str} {k : Nat} {sp : Sp} (F : Fun K x qual st f fd) (S : FnScope N (ps ++ [pd]) (defScope st))
    (bind : ∀ (kV doc pm : Value) (an : Option Addr) (cdv ct : Value) (us : List Value), us.length = ps.length → bindArgs (PySem.W.fnOf x qual (defArgs st) (defBody st) (defScope st) .none kV doc pm an cdv ct) ⟨us, []⟩ = ((alloc ({ cls := .type "dict", data := .dict #[] } : Obj) : Sem Addr) >>= fun d => pure (ps.zip us ++ [(pd, Value.ref d)])))
    (walk : ∀ (cdv : Value) (A : Around) (outer : List Env) (s : Shared) (H : Hp) (vs : List V) (Q : VK) (E : XK), Room k (A.deeper (envOfC qual (defScope st) s.heap.objs.size f cdv)) → sp vs H Q E →
      ∃ t, PSs (cxOf CX0 P w K mg base N qual (defScope st) f cdv A outer s H E).nox (defBody st) t ∧ t { nx := fun _ H' => Q .non H', rt := Q } (start N vs) H) :
    FnR P w K mg base CX0 (k + 1) f (fun vs H Q E => vs.length = ps.length ∧ ∀ d, H d = Option.none → sp (vs ++ [V.ref d]) (upd H d (.dK [])) Q E) := by
  obtain ⟨oc, od, kV, doc, pm, an, cdv, ct, osl, rfl, lk, hcd⟩ := F.ex
  refine fn_kw0 lk hcd S StX.cxUp_none (bind kV doc pm an cdv ct) fun A outer s H vs Q E hr hsp => ?_
  obtain ⟨t, h, q⟩ := walk cdv A outer s H vs Q E hr hsp
  exact ⟨t, h.nox, q⟩
/-- C() -/
theorem pe_makeR0 {X : Cx} {CX : CXT} {k : Nat} {f C : Addr} {sp : Sp} {E : XK} {x : Str} {p pos : Pos} (M : Mk X.K C f) (F : FnR X.prog X.w X.K X.mg X.base CX k f sp) (hr : Room (k + 1) X.A) (hg : Gl X x) (hm : X.mg x = some (.ref C)) (hx : Passes CX X E) (hdb : (x == ("__debug__" : Str)) = false := by decide) :
    PE X (.Call (.Name x p) [] [] pos) (StX.tMakeR C sp E tNil) := by
  refine ⟨fun pins s σ H Q I h => ?_⟩
  refine wpAny_Call_Name_kw (ld_glob I hg hm ?_ hdb)
  exact PySem.W.callWith_K0 (first := []) I.kIn M.kp (StX.run_makeR M F hr hx I .nil h)
/-- o.m() -/
theorem pe_methR0 {X : Cx} {CX : CXT} {k : Nat} {C f : Addr} {m : Str} {sp : Sp} {E : XK} {o : Expr} {ta : TE} {apos pos : Pos} {pl : Sem Bool} (he : PE X o ta) (c : Cls X.K C) (hm : Meth X.K C m f)
    (F : FnR X.prog X.w X.K X.mg X.base CX k f sp) (hr : Room k X.A) (hx : Passes CX X E)
    (ht : eval (.Call (.Attribute o m apos) [] [] pos) X.env = (do
      let ov ← eval o X.env
      standAt apos.atName
      let (f, first) ← holding [ov] (getMethod ov m pl)
      callWith pos f first (backTo pos (starEach [] X.env)) (backToKw pos (keywordEach [] X.env))) := by rfl) :
    PE X (.Call (.Attribute o m apos) [] [] pos) (tMethR C m sp E ta tNil) := by
  refine ⟨fun pins s σ H Q I h => ?_⟩
  refine PySem.W.methodCall_KW (pl := pl) (thn (he.run pins s σ H _ I h) fun u s1 ⟨x, H1, I1, rx, a, dx, fs, ex, ea, l, q⟩ => ?_) ht
  subst ex
  obtain rfl : u = Value.ref a := rx
  refine getmeth_ok I1 ea c hm l ?_
  exact PySem.W.callWith_K0 (first := [.ref a]) I1.kIn hm.kp (wpAny_call (run_fnR (us := [.ref a]) (vs := [.ref a]) F hr hx I1 (.cons rfl .nil) q))
/-- the receiver is an instance without such an attribute -/
def gM (C : Addr) (m : Str) (x : V) (H : Hp) (R : Prop) : Prop := ∃ a dx fs, x = .ref a ∧ H a = some (.ins C dx fs) ∧ fs.lookup m = none ∧ R
theorem r_meth {C : Addr} {m : Str} {sp : Sp} {E : XK} {ta : TE} {t : TA} {σ : L2.St} {H : Hp} {Q : VK} (q : ta σ H fun x H1 => gM C m x H1 (t σ H1 fun vs H2 => sp (x :: vs) H2 Q E)) : tMethR C m sp E ta t σ H Q := q
theorem lkN {f g : Str} {v : V} (h : (f == g) = false) : List.lookup f [(g, v)] = none := by
  show (match f == g with | true => some v | false => _) = _
  rw [h]; rfl

end
/-! counts -/
def kwSp (n : Nat) (sp : Sp) : Sp := fun vs H Q E => vs.length = n ∧ ∀ d, H d = Option.none → sp (vs ++ [V.ref d]) (upd H d (.dK [])) Q E
/-- counts: an instance whose dict has the words with a number that is not 0 -/
def Good (m : List (Str × Int)) : Prop := (keys m).Nodup ∧ (∀ x ∈ m, x.2 ≠ 0 ∧ Wd x.1) ∧ m.length ≤ 500
def Co (p C : Addr) (g : Str → Int) : Asn := Exs fun (x : Addr × List (Str × Int)) => Pk [pure' (Good x.2 ∧ num x.2 = g), Ob p C [("_numbers", .ref x.1)], At x.1 (.dK (mp x.2))]
abbrev cNs : List Str := ["_numbers"]
section
variable {l : List Asn} {H : Hp} {p C d : Addr} {g : Str → Int} {m : List (Str × Int)}
theorem co_open (S : Sep (Co p C g :: l) H) : ∃ d m, Good m ∧ num m = g ∧ Sep (Ob p C [("_numbers", .ref d)] :: At d (.dK (mp m)) :: l) H := by
  obtain ⟨⟨d, m⟩, S⟩ := S.ex
  obtain ⟨⟨h1, h2⟩, S⟩ := (S.open').pure
  exact ⟨d, m, h1, h2, S⟩
theorem co_close (h : Good m) (e : num m = g) (S : Sep (Ob p C [("_numbers", .ref d)] :: At d (.dK (mp m)) :: l) H) : Sep (Co p C g :: l) H :=
  Sep.ex' (x := (d, m)) (Sep.close' (l := [_, _, _]) (Sep.pure_in ⟨h, e⟩ S))
end
theorem m_co {l : List Asn} {H : Hp} {p C : Addr} {g : Str → Int} {f : Str} {R : Prop} {e : Nat} (S : Sep l H) (hi : l[e]? = some (Co p C g)) (hf : (f == ("_numbers" : Str)) = false) (q : R) : gM C f (.ref p) H R := by
  obtain ⟨d, m, _, _, S1⟩ := co_open (S.pick hi)
  obtain ⟨dx, h⟩ := ob_at S1 (e := 0) rfl
  exact ⟨p, dx, _, rfl, h, lkN hf, q⟩
local macro_rules | `(tactic| walk_at "v1") => `(tactic| (first
  | with_reducible refine r_meth ?_
  | ((with_reducible refine' m_co (by assumption) ?hi ?hf ?_); (case hi => walk_at "has"); (case hf => decide +kernel))))
/-! dict comprehensions -/
def DcB (J : It) (g : TG) (tt : TT) (tk tv : TE) (vs : List Nat) : L2.St → Hp → VK → Prop := fun σ H1 Q => ∀ D, H1 D = none → ∃ W : Nat → Nat → Hp → Prop, (∃ m, W 0 m (upd H1 D (.dK []))) ∧ ∀ i m H, W i m H →
  (J.stop i H ∧ Q (.ref D) H) ∨ (J.go i H ∧ ∃ Nx : Hp → Prop, (∀ H', Nx H' → ∃ m', m' < m ∧ W (i + 1) m' H') ∧ ∀ x H', J.yld i H x H' → g x (wipe σ vs) H' fun σ2 H2 => wipe σ2 vs = wipe σ vs ∧ tt σ2 H2 fun b H3 =>
    if b = true then tk σ2 H3 fun y H4 => tv σ2 H4 fun z H5 => ∃ kvs k, y = kV k ∧ H5 D = some (.dK kvs) ∧ kvs.length < sizeLine ∧ Nx (upd H5 D (.dK (putK kvs k z))) else Nx H3)
/-- the item goes to the new dict -/
def gDPut (D : Addr) (y z : V) (H : Hp) (N : Hp → Prop) : Prop := ∃ kvs k, y = kV k ∧ H D = some (.dK kvs) ∧ kvs.length < sizeLine ∧ N (upd H D (.dK (putK kvs k z)))
def DcT (g : TG) (tt : TT) (tk tv : TE) (vs : List Nat) (σ : L2.St) (x : V) (D : Addr) (N : Hp → Prop) (H : Hp) : Prop := g x (wipe σ vs) H fun σ2 H2 => wipe σ2 vs = wipe σ vs ∧ tt σ2 H2 fun b H3 =>
  if b = true then tk σ2 H3 fun y H4 => tv σ2 H4 fun z H5 => gDPut D y z H5 N else N H3
section
variable {σ : L2.St} {H : Hp} {K : PySem.W.Frag} {g : TG} {te ta tk tv : TE} {tt : TT} {vs : List Nat} {Q : VK} {l : List Asn} {p : Addr} {xs : List V}
theorem dc_turn {x : V} {N : Hp → Prop} {D : Addr} (q : g x (wipe σ vs) H fun σ2 H2 => wipe σ2 vs = wipe σ vs ∧ tt σ2 H2 fun b H3 => if b = true then tk σ2 H3 fun y H4 => tv σ2 H4 fun z H5 => gDPut D y z H5 N else N H3) : DcT g tt tk tv vs σ x D N H := q
theorem r_dcL (q : te σ H fun x H1 => ∃ a, x = .ref a ∧ (∃ xs, SqL K H1 a xs) ∧ DcB (Itl K a) g tt tk tv vs σ H1 Q) : tDc (iList K te) g tt tk tv vs σ H Q := q
/-- {k: v for x in xs if ..}, xs at an address of ours; D: the new dict's address -/
theorem dcL {e : Nat} (S : Sep l H) (hi : l[e]? = some (At p (.lst xs))) (Pv : Addr → Nat → Hp → Prop) (h0 : ∀ D H', Sep (At D (.dK []) :: l) H' → Pv D 0 H') (hl : ∀ D i H, Pv D i H → H p = some (.lst xs))
    (hs : ∀ D i x H, xs[i]? = some x → Pv D i H → DcT g tt tk tv vs σ x D (Pv D (i + 1)) H) (hd : ∀ D H, Pv D xs.length H → Q (.ref D) H) : ∃ a, V.ref p = .ref a ∧ (∃ xs, SqL K H a xs) ∧ DcB (Itl K a) g tt tk tv vs σ H Q := by
  refine ⟨p, rfl, ⟨xs, SqL.of (S.at hi)⟩, fun D hD => ⟨fun i m H => m = xs.length - i ∧ i ≤ xs.length ∧ Pv D i H, ⟨xs.length, by simp, Nat.zero_le _, h0 D _ (S.new hD)⟩, ?_⟩⟩
  rintro i m H ⟨rfl, hi, q⟩
  have hq := SqL.of (K := K) (hl D i H q)
  by_cases hlt : i < xs.length
  · refine .inr ⟨⟨xs, xs[i], hq, by simp [hlt]⟩, Pv D (i + 1), fun H' p' => ⟨xs.length - (i + 1), by omega, rfl, hlt, p'⟩, fun x H' y => ?_⟩
    obtain ⟨rfl, f⟩ := y
    exact hs D i x _ (f xs hq) q
  · have e : i = xs.length := by omega
    subst e
    exact .inl ⟨⟨xs, hq, Nat.le_refl _⟩, hd D H q⟩
theorem dp_put {e : Nat} {D : Addr} {m : List (Str × Int)} {w : Str} {n : Int} {N : Hp → Prop} (S : Sep l H) (hi : l[e]? = some (At D (.dK (mp m)))) (hn : (keys m).Nodup) (hz : m.length < 100000) (k : ∀ H', Sep (l.set e (At D (.dK (mp (mput m w n))))) H' → N H') : gDPut D (.str w) (.int n) H N :=
  ⟨mp m, Sum.inr w, rfl, S.at hi, by rw [List.length_map]; exact Nat.lt_of_lt_of_le hz (by decide), by rw [put_mp m w n hn]; exact k _ (S.upd hi fun _ z => nomatch z)⟩
end
theorem var_at {i : Nat} {σ : L2.St} {v : V} (h : σ[i]? = some (some v)) : ∀ H', tVar i σ H' = fun Q => Q v H' :=
  fun _ => funext fun _ => propext ⟨fun ⟨u, e, q⟩ => by rw [h] at e; cases e; exact q, fun q => ⟨v, h, q⟩⟩
/-- {.. for .. in d.items() ..}, d locked meanwhile and without an item -/
theorem dcI0 {σ : L2.St} {H : Hp} {g : TG} {te tk tv : TE} {tt : TT} {vs : List Nat} {Q : VK} {l : List Asn} {p : Addr} {e : Nat} (S : Sep l H) (hi : l[e]? = some (At p (.dK []))) (hv : ∀ H', te σ H' = fun Q => Q (.ref p) H')
    (k : ∀ D H', Sep (At D (.dK []) :: l) H' → Q (.ref D) H') : tLockE (tDc (iItems te) g tt tk tv vs) σ H Q := by
  refine ⟨p, .dK [], S.at hi, trivial, fun od => ?_⟩
  have S' := S.upd hi (o' := .frz od (.dK [])) (fun _ z => nomatch z)
  show te σ _ _
  rw [hv]
  refine ⟨p, od, [], rfl, upd_same, fun D hD => ⟨fun i m H' => i = 0 ∧ Sep (At D (.dK []) :: l.set e (At p (.frz od (.dK [])))) H', ⟨0, rfl, S'.new hD⟩, ?_⟩⟩
  rintro i m H' ⟨rfl, S2⟩
  have he : (At D (.dK []) :: l.set e (At p (.frz od (.dK []))))[e + 1]? = some (At p (.frz od (.dK []))) := by
    show (l.set e _)[e]? = _
    exact List.getElem?_set_self (get_lt hi)
  have hf := S2.at he
  refine .inl ⟨⟨hf, Nat.le_refl _⟩, hf, ?_⟩
  have S3 := S2.upd he (o' := .dK []) (fun _ z => nomatch z)
  have e3 : (At D (.dK []) :: l.set e (At p (.frz od (.dK [])))).set (e + 1) (At p (.dK [])) = At D (.dK []) :: l := by
    show At D (.dK []) :: (l.set e _).set e _ = _
    rw [List.set_set, set_same hi]
  rw [e3] at S3
  exact k D _ S3
theorem num_at : ∀ {m : List (Str × Int)} {x : Str × Int}, (keys m).Nodup → x ∈ m → num m x.1 = x.2
  | [], _, _, h => nomatch h
  | y :: m, x, hn, h => by
    have hn' := List.nodup_cons.1 hn
    show (if y.1 = x.1 then y.2 else num m x.1) = x.2
    rcases List.mem_cons.1 h with rfl | h
    · rw [if_pos rfl]
    · rw [if_neg (fun z => hn'.1 (show y.1 ∈ keys m by rw [z]; exact List.mem_map_of_mem h))]
      exact num_at hn'.2 h
theorem filt_put {qs : List (Str × Int)} {w : Str} {n : Int} (h : w ∉ keys qs) : mput qs w n = qs ++ [(w, n)] := by
  induction qs with
  | nil => rfl
  | cons x qs ih =>
    have hx : ¬ x.1 = w := fun z => h (by rw [← z]; exact List.mem_cons_self)
    unfold mput
    rw [if_neg hx, ih fun z => h (List.mem_cons_of_mem _ z)]
    rfl
theorem not_take {α : Type} [DecidableEq α] {l : List α} {i : Nat} {x : α} (hn : l.Nodup) (h : l[i]? = some x) : x ∉ l.take i := by
  intro z
  obtain ⟨j, hj⟩ := List.mem_iff_getElem?.1 z
  have hji := get_lt hj
  rw [List.length_take] at hji
  rw [List.getElem?_take] at hj
  split at hj
  · have := (List.getElem?_inj (by have := get_lt h; omega) hn).1 (hj.trans h.symm)
    omega
  · cases hj
abbrev nz (ps : List (Str × Int)) : List (Str × Int) := ps.filter fun x => decide (x.2 ≠ 0)
theorem nz_nodup {ps : List (Str × Int)} (hn : (keys ps).Nodup) : (keys (nz ps)).Nodup := List.Nodup.sublist (List.Sublist.map _ List.filter_sublist) hn
theorem nz_turn {ps : List (Str × Int)} {i : Nat} {y : Str × Int} (hn : (keys ps).Nodup) (h : ps[i]? = some y) : (y.2 ≠ 0 → nz (ps.take (i + 1)) = mput (nz (ps.take i)) y.1 y.2) ∧ (y.2 = 0 → nz (ps.take (i + 1)) = nz (ps.take i)) := by
  have hk : (keys ps)[i]? = some y.1 := by unfold keys; rw [List.getElem?_map, h]; rfl
  have hni : y.1 ∉ keys (nz (ps.take i)) := fun z => by
    obtain ⟨x, hx, e⟩ := List.mem_map.1 z
    have hx' := (List.mem_filter.1 hx).1
    refine not_take hn hk ?_
    unfold keys
    rw [← List.map_take]
    exact List.mem_map.2 ⟨x, hx', e⟩
  constructor
  · intro hy
    rw [filt_put hni]
    unfold nz
    rw [take_snoc h, List.filter_append, List.filter_cons, if_pos (decide_eq_true hy)]
    rfl
  · intro hy
    unfold nz
    rw [take_snoc h, List.filter_append, List.filter_cons, if_neg (by rw [decide_eq_false (fun z => z hy)]; exact Bool.false_ne_true), List.filter_nil, List.append_nil]
theorem nz_good {ps : List (Str × Int)} (hn : (keys ps).Nodup) (hw : ∀ x ∈ ps, Wd x.1) (hz : ps.length ≤ 500) : Good (nz ps) :=
  ⟨nz_nodup hn, fun x hx => ⟨of_decide_eq_true (List.mem_filter.1 hx).2, hw x (List.mem_filter.1 hx).1⟩, Nat.le_trans (List.length_filter_le _ _) hz⟩
theorem filt_num {ps : List (Str × Int)} (hn : (keys ps).Nodup) : num (ps.filter fun x => decide (x.2 ≠ 0)) = num ps := by
  induction ps with
  | nil => rfl
  | cons x ps ih =>
    have hn' := List.nodup_cons.1 hn
    have ih := ih hn'.2
    funext w
    by_cases hx : x.2 ≠ 0
    · rw [List.filter_cons, if_pos (decide_eq_true hx)]
      show (if x.1 = w then x.2 else num _ w) = if x.1 = w then x.2 else num ps w
      rw [ih]
    · rw [List.filter_cons, if_neg (by rw [decide_eq_false hx]; exact Bool.false_ne_true), ih]
      show num ps w = if x.1 = w then x.2 else num ps w
      by_cases hw : x.1 = w
      · rw [if_pos hw]
        have h0 : x.2 = 0 := Classical.byContradiction hx
        rw [h0]
        exact num_none fun z => hn'.1 (show x.1 ∈ keys ps by rw [hw]; exact z)
      · rw [if_neg hw]

/-! pairs: equality, a dict's items as a list; isinstance of lists -/
section
variable {K : PySem.W.Frag} {H H' : Hp} {Q : VK} {l : List Asn} {p d : Addr} {xs : List V} {m : List (Str × Int)}
theorem i_LT {e f : Nat} {q : Addr} (S : Sep l H) (hi : l[e]? = some (At p (.lst xs))) (hj : l[f]? = some (Tp q [.ty "list", .ty "tuple"])) (k : Q (.bl true) H) : gIsi K [.ref p, .ref q] H Q :=
  .inr ⟨.ref p, q, [.ty "list", .ty "tuple"], .type "list", [.type "list", .type "tuple"], true, rfl, S.tp hj, .cons (.ty _) (.cons (.ty _) .nil), .base (.lst (S.at hi)), (by unfold PySem.W.kitAny; rw [kit_ty k_ll]), k⟩
theorem Sep.grow {o : HO} (S : Sep l H) (hk : ∀ b o, H b = some o → H' b = some o) (hp : H p = none) (h' : H' p = some o) : Sep (At p o :: l) H' := by
  obtain ⟨g, S⟩ := S
  have S' := S.st (H' := H') (fun a z => by obtain ⟨o, e⟩ := S.al a z; rw [hk _ _ e, e]) (fun b xs e => hk _ _ e)
  refine ⟨_, .cons ⟨h', fun a => Iff.rfl⟩ S' fun a z q => ?_⟩
  cases z
  obtain ⟨o, e⟩ := S.al _ q
  rw [hp] at e; cases e
theorem paired_mp : ∀ {m : List (Str × Int)} {ts : List Addr}, Paired (fun (t : Addr) (q : Key × V) => H t = some (.tup [kV q.1, q.2])) ts (mp m) → IsDs H (ts.map V.ref) (pds m)
  | [], _, .nil => .nil
  | (w, n) :: m, _, .cons h r => .cons (pair_isD h) (paired_mp r)
theorem li_items {e : Nat} (S : Sep l H) (hi : l[e]? = some (At d (.dK (mp m)))) (k : ∀ p H', Sep (LD p (pds m) :: l) H' → Q (.ref p) H') : LiI.rItemsL (.ref d) H Q :=
  ⟨d, mp m, rfl, S.at hi, fun H' p ts hk hp _ _ hl hq => k p H' (ld_close (paired_mp hq) (S.grow hk hp hl))⟩
theorem r_listItems {σ : L2.St} {te : TE} (q : te σ H fun x H1 => LiI.rItemsL x H1 Q) : LiI.tListItems te σ H Q := q
end
local macro_rules | `(tactic| walk_at "v1") => `(tactic| (first
  | with_reducible refine r_listItems ?_
  | ((with_reducible refine' li_items (by assumption) ?hi ?_); (case hi => walk_at "has"); intro _ _ _)))
theorem eqv_pds : ∀ L M : List (Str × Int), PyData.eqvAll (pds L) (pds M) = decide (L = M)
  | [], [] => by simp [PyData.eqvAll]
  | [], _ :: _ => by simp [PyData.eqvAll]
  | _ :: _, [] => by simp [PyData.eqvAll]
  | (a, n) :: ws, (b, m) :: us => by
    show PyData.eqvAll (pd (a, n) :: pds ws) (pd (b, m) :: pds us) = _
    rw [PyData.eqvAll, eqv_pds ws us]
    show (PyData.eqv (.tuple [.str a, .int n]) (.tuple [.str b, .int m]) && _) = _
    rw [PyData.eqv, PyData.eqvAll, PyData.eqvAll, PyData.eqvAll, PyData.eqv, PyData.eqv]
    by_cases h : a = b
    · by_cases h2 : n = m
      · by_cases h3 : ws = us <;> simp [h, h2, h3, Prod.ext_iff]
      · simp [h, h2, Prod.ext_iff]
    · simp [h, Prod.ext_iff]
theorem lay_pds {L : List (Str × Int)} (h : ∀ x ∈ L, Wd x.1) : PyData.canLayAll0 (pds L) = true ∧ PyData.depthAll (pds L) ≤ 1 := by
  induction L with
  | nil => exact ⟨rfl, Nat.zero_le _⟩
  | cons x L ih =>
    obtain ⟨i1, i2⟩ := ih fun y hy => h y (List.mem_cons_of_mem _ hy)
    have hs := strOk_word (h x List.mem_cons_self)
    show PyData.canLayAll0 (.tuple [.str x.1, .int x.2] :: pds L) = true ∧ PyData.depthAll (.tuple [.str x.1, .int x.2] :: pds L) ≤ 1
    refine ⟨by simp [PyData.canLayAll0, PyData.canLay0, hs, i1], by simp [PyData.depthAll, PyData.depth, i2]⟩
theorem shaped_pds {L : List (Str × Int)} (h : ∀ x ∈ L, Wd x.1) : SeqAt.shaped (.list (pds L)) = true := by
  obtain ⟨h1, h2⟩ := lay_pds h
  unfold SeqAt.shaped
  rw [PyData.canLay0, h1, PyData.depth]
  simp; omega
section
variable {l : List Asn} {H : Hp} {p p2 : Addr} {K : PySem.W.Frag} {Q : VK} {e e2 : Nat} {L M : List (Str × Int)}
theorem eq_pds (S : Sep l H) (hi : l[e]? = some (LD p (pds L))) (hj : l[e2]? = some (LD p2 (pds M))) (h1 : ∀ x ∈ L, Wd x.1) (h2 : ∀ x ∈ M, Wd x.1) (q : Q (.bl (decide (L = M))) H) : gEq K (.ref p) (.ref p2) H Q :=
  .inr ⟨.list (pds L), .list (pds M), ld_dp S hi, ld_dp S hj, shaped_pds h1, shaped_pds h2, by rw [PyData.eqv, eqv_pds]; exact q⟩
theorem ne_pds (S : Sep l H) (hi : l[e]? = some (LD p (pds L))) (hj : l[e2]? = some (LD p2 (pds M))) (h1 : ∀ x ∈ L, Wd x.1) (h2 : ∀ x ∈ M, Wd x.1) (q : Q (.bl (!decide (L = M))) H) : gNe K (.ref p) (.ref p2) H Q :=
  .inr ⟨.list (pds L), .list (pds M), ld_dp S hi, ld_dp S hj, shaped_pds h1, shaped_pds h2, by rw [PyData.eqv, eqv_pds]; exact q⟩
/-- .. is a list -/
theorem i_LD {ds : List PyData} {T : String} {b : Bool} (S : Sep l H) (hi : l[e]? = some (LD p ds)) (h : kitB "list" T = some b) (q : Q (.bl b) H) : gIsi K [.ref p, .ty T] H Q := by
  obtain ⟨vs, _, S1⟩ := ld_open (S.pick hi)
  exact i_ty (.base (.lst (S1.at (i := 0) rfl))) h q
end
local macro_rules | `(tactic| walk_at "v1") => `(tactic| ((with_reducible refine' i_LD (by assumption) ?hi ?h ?_); (case hi => walk_at "has"); (case h => (first | exact k_ll | exact k_lt | exact k_li | exact k_ls))))

/-! own operators of instances with a dict -/
section
variable {X : Cx} {CX : CXT} {n : Nat} {f C : Addr} {sp : Sp} {E : XK} {m : Str}
theorem ins_inst {pins : List (Addr × Obj)} {s : Shared} {σ : L2.St} {H : Hp} {a C dx : Addr} {fs : List (Str × V)} (I : L2.Inv X pins σ H s) (e : H a = some (.ins C dx fs)) : ∃ ox od, PySem.W.InstAt s.heap a ox C od := by
  obtain ⟨mA, O, _⟩ := ins_get I.hok e
  obtain ⟨od, J, _⟩ := O.look
  exact ⟨_, _, J⟩
/-- o[i] = v -/
def rSetOwn (C : Addr) (sp : Sp) (E : XK) : TSet := fun o i v H Q => ∃ a dx fs, o = V.ref a ∧ H a = some (.ins C dx fs) ∧ sp [V.ref a, i, v] H (fun _ H' => Q H') E
theorem set_own (hn : PySem.W.noSeq X.K C = true) (hm : Meth X.K C (Str.ofString "__setitem__") f) (F : FnR X.prog X.w X.K X.mg X.base CX n f sp) (hr : Room n X.A) (hx : Passes CX X E) : PSet X (rSetOwn C sp E) := by
  intro pins s σ H o i v ov iv u Q I ro ri rv h
  obtain ⟨a, dx, fs, rfl, ha, q⟩ := h
  cases (show ov = Value.ref a from ro)
  obtain ⟨ox, od, J⟩ := ins_inst I ha
  obtain ⟨m, hF⟩ := I.fr
  refine PySem.W.ksp_setItem hF I.ok.mod.kin J hn hm.at_ hm.fn ?_
  refine wpAny_mono (wpAny_call (run_fnR (us := [.ref a, iv, u]) (vs := [.ref a, i, v]) F hr hx I (.cons rfl (.cons ri (.cons rv .nil))) q)) (fun w s' z => ?_) fun _ _ x => x
  obtain ⟨z', H', I', rz, qz⟩ := z
  exact ⟨H', I', qz⟩
/-- len(o) -/
def rLenOwn (C : Addr) (sp : Sp) (E : XK) : List V → Hp → VK → Prop := fun xs H Q => ∃ a dx fs, xs = [V.ref a] ∧ H a = some (.ins C dx fs) ∧ sp [V.ref a] H (fun z H' => ∃ i : Int, z = .int i ∧ 0 ≤ i ∧ i < 2 ^ 63 ∧ Q z H') E
theorem call_ownLen (hm : Meth X.K C (Str.ofString "__len__") f) (F : FnR X.prog X.w X.K X.mg X.base CX n f sp) (hr : Room (n + 1) X.A) (hx : Passes CX X E) : CallR X (.builtin "len") (rLenOwn C sp E) := by
  intro pins s σ H xs us Q I r h
  obtain ⟨a, dx, fs, rfl, ha, q⟩ := h
  obtain ⟨u, rfl, ru⟩ := r.one
  cases (show u = Value.ref a from ru)
  obtain ⟨ox, od, J⟩ := ins_inst I ha
  obtain ⟨m, hF⟩ := I.fr
  refine PySem.W.len_K hF I.ok.mod.kin J hm.at_ hm.fn ?_
  refine wpAny_mono (wpAny_call (SlX.run_at (us := [.ref a]) (ws := [.ref a]) F (show Room n X.A.in1 from Room.in1 hr) I.env0.in1 hx I (.cons rfl .nil) q)) (fun w s' z => ?_) fun _ _ x => x
  obtain ⟨z', H', I', rz, i, ei, h0, h1, qz⟩ := z
  subst ei
  obtain ⟨t, e⟩ := (show ∃ t, w = Value.int i t from rz)
  cases e
  exact ⟨⟨h0, h1⟩, .int i, H', I'.tok _, ⟨_, rfl⟩, qz⟩
/-- x op y, both instances of C -/
def rBinOwn (C : Addr) (sp : Sp) (E : XK) : R2 := fun x y H Q => ∃ a dx fs b dy gs, x = V.ref a ∧ y = V.ref b ∧ H a = some (.ins C dx fs) ∧ H b = some (.ins C dy gs) ∧ sp [x, y] H Q E
theorem op_ownBin {op : Operator} (hm : Meth X.K C (PySem.dunder op.info.2) f) (hs : PySem.W.selfFirst X.K C = true) (F : FnR X.prog X.w X.K X.mg X.base CX n f sp) (hr : Room n X.A) (hx : Passes CX X E) : OpR X (binaryOp op) (rBinOwn C sp E) := by
  intro pins s σ H x y v u Q I rx ry h
  obtain ⟨a, dx, fs, b, dy, gs, rfl, rfl, ha, hb, q⟩ := h
  cases (show v = Value.ref a from rx)
  cases (show u = Value.ref b from ry)
  obtain ⟨ox, od, J⟩ := ins_inst I ha
  obtain ⟨ox', od', J'⟩ := ins_inst I hb
  obtain ⟨m, hF⟩ := I.fr
  refine PySem.W.binop_K hF I.ok.mod.kin J J'.type hs hm.at_ hm.fn ?_
  refine wpAny_mono (wpAny_call (run_fnR (us := [.ref a, .ref b]) (vs := [.ref a, .ref b]) F hr hx I (.cons rfl (.cons rfl .nil)) q)) (fun w s' z => ?_) fun _ _ x => x
  obtain ⟨z', H', I', rz, qz⟩ := z
  exact SlX.cmpback rz ⟨z', H', I', rz, qz⟩
theorem op_ownCmp {op : CmpOp} (hop : ∀ a b, compareOp op a b = richCompare op a b) (hm : Meth X.K C (cmpInfo op).2.1 f) (hs : PySem.W.notFirst X.K C (.ref C) = true) (F : FnR X.prog X.w X.K X.mg X.base CX n f sp) (hr : Room n X.A) (hx : Passes CX X E) : OpR X (compareOp op) (rBinOwn C sp E) := by
  intro pins s σ H x y v u Q I rx ry h
  obtain ⟨a, dx, fs, b, dy, gs, rfl, rfl, ha, hb, q⟩ := h
  cases (show v = Value.ref a from rx)
  cases (show u = Value.ref b from ry)
  obtain ⟨ox, od, J⟩ := ins_inst I ha
  obtain ⟨ox', od', J'⟩ := ins_inst I hb
  obtain ⟨m, hF⟩ := I.fr
  rw [hop]
  refine PySem.W.cmp_K (op := op) (tb := .ref C) hr.units0 hF I.ok.mod.kin J J'.type hs hm.at_ hm.fn ?_
  refine wpAny_mono (wpAny_call (run_fnR (us := [.ref a, .ref b]) (vs := [.ref a, .ref b]) F hr hx I (.cons rfl (.cons rfl .nil)) q)) (fun w s' z => ?_) fun _ _ x => x
  obtain ⟨z', H', I', rz, qz⟩ := z
  exact SlX.cmpback rz ⟨z', H', I', rz, qz⟩
end
/-! sum(d.values()) -/
/-- sum(o.values()), a dict with int values -/
def tSumVals (td : TE) : TE := fun σ H Q => td σ H fun x H1 => ∃ (a : Addr) (kvs : List (Key × V)) (is : List Int), x = V.ref a ∧ H1 a = some (.dK kvs) ∧ kvs.map (·.2) = is.map V.int ∧ Q (.int is.sum) H1
section
open PyProof PyProof.Rows PyProof.V PySem.Spec PySem.Calls
theorem preSum_take (is : List Int) : ∀ j, preSum (fun i => is.getD i 0) j = (is.take j).sum
  | 0 => by simp [preSum]
  | j + 1 => by
    rw [preSum, preSum_take is j, List.getD_eq_getElem?_getD, List.take_add_one]
    cases is[j]? <;> simp
variable {X : Cx} {o : Expr} {p pos apos mpos : Pos} {td : TE}
theorem pe_sumVals (hc : X.calm = true) (hg : Gl X "sum") (hm : X.mg "sum" = none) (hd : PE X o td) (hbase : attributeBase o "values" X.env (eval o X.env) = eval o X.env := by rfl) (hline : (apos.endLine == mpos.line) = true := by rfl)
    (hse : starEach [Expr.Call (.Attribute o "values" apos) [] [] mpos] X.env = [(false, eval (Expr.Call (.Attribute o "values" apos) [] [] mpos) X.env)] := by rfl) :
    PE X (.Call (.Name "sum" p) [.Call (.Attribute o "values" apos) [] [] mpos] [] pos) (tSumVals td) := by
  refine ⟨fun pins s σ H Q I h => ?_⟩
  refine wpAny_Call_Name_kw (ld_blt I hg hm (u := .builtin "sum") (by first | rfl | decide +kernel) ?_ (by first | decide +kernel | decide) (by first | decide +kernel | decide))
  rw [hse]
  refine PySem.callWith_builtin1 (wpAny_Call_method0_late hbase hline (thn (hd.run pins s σ H _ I h) fun v s1 ⟨x, H1, I1, r1, a, kvs, is, ex, ha, hv, q⟩ => ?_))
  subst ex
  obtain rfl : v = Value.ref a := r1
  obtain ⟨_, hsys, vs, rel, dof⟩ := dk_of I1.hok ha
  obtain ⟨ep, dat⟩ := dof.dictAt
  have dat' := dat
  obtain ⟨ob, es, ho, ex, hdat, hko, hpr, hnd⟩ := dat'
  refine ⟨"dict", "dict.values", F.plainAttrs_dict, F.slot_dict_values, F.type_dict_values, ⟨ob, ho, ex.1⟩, fun b e => ?_, Calls.callWith_builtin rfl (PySem.evalArgs_none ?_)⟩
  · cases e
    exact ⟨ob, ho, ex.2.1⟩
  refine call_meetsIn F.slot_dict_values ⟨ob, ho, ex.1⟩ F.entry_dict_values (F.args_dict_values_1 _) (meets_dict_values (mixKind X.prog X.w) a hsys) ⟨⟨vs, dof⟩, ?_⟩
  have k1 : ∀ b u, s1.heap.get? b = some u → (s1.heap.push { cls := .type "dict_values", data := .fields #[.ref a] }).get? b = some u := fun b u e => Heap.get?_push_of_some _ e
  have dat1 : (s1.heap.push { cls := .type "dict_values", data := .fields #[.ref a] }).DictAt (mixKind X.prog X.w) a vs ep := dat.keep k1
  have hlv : vs.length = is.length := by
    have e1 := congrArg List.length hv
    rw [List.length_map, List.length_map] at e1
    rw [← e1]
    exact (KV.length rel).symm
  have hval : ∀ (i : Nat) (v : Value), (∃ k, vs[i]? = some (k, v)) → ∃ t, v = Value.int (is.getD i 0) t := fun i v ⟨k, hk⟩ => by
    obtain ⟨x, h1, h2⟩ := KV.at' rel hk
    have e1 : (kvs.map (·.2))[i]? = some x := by rw [List.getElem?_map, h1] <;> rfl
    rw [hv, List.getElem?_map] at e1
    obtain ⟨j, hj, e2⟩ := Option.map_eq_some_iff.mp e1
    subst e2
    obtain ⟨t, e3⟩ := h2
    refine ⟨t, ?_⟩
    rw [e3, List.getD_eq_getElem?_getD, hj] <;> rfl
  have hlt : a < s1.heap.objs.size := Heap.lt_size ho
  have hsz : (s1.heap.push { cls := .type "dict_values", data := .fields #[.ref a] }).objs.size = s1.heap.objs.size + 1 := Heap.size_push _ _
  refine call_sum_walkAnyS (wpAny_pyIter_values (v := s1.heap.objs.size) (d := a) ⟨_, Heap.get?_push_size _ rfl, rfl, rfl⟩ dat1 ?_)
  refine ⟨_, _, _, _, vs.length, _, _, fun i => is.getD i 0, rfl, (Walks.dictValues (knd := mixKind X.prog X.w) (A := X.A.in1) (I.ok.hd hc) (s1.heap.push { cls := .type "dict_values", data := .fields #[.ref a] }).objs.size a (by rw [hsz]; exact Nat.ne_of_lt (Nat.lt_succ_of_lt hlt)) vs ep).toS,
    ⟨⟨_, Heap.get?_push_size _ rfl, rfl, rfl⟩, dat1.keep fun b u e => Heap.get?_push_of_some _ e⟩, fun b hb => ?_, hval, fun s' t' hmv => ?_⟩
  · show b < ((s1.heap.push _).push _).objs.size
    rw [Heap.size_push, Heap.size_push]
    rw [hsz] at hb
    rcases List.mem_cons.mp hb with e | hb
    · rw [e]
      exact Nat.lt_succ_self _
    · have e : b = a := List.mem_singleton.mp hb
      rw [e]
      exact Nat.lt_succ_of_lt (Nat.lt_succ_of_lt hlt)
  · have hk : ∀ b u, s1.heap.get? b = some u → s'.heap.get? b = some u := fun b u e => hmv.heap b u (fun hmem => by
      have e1 : b = (s1.heap.push { cls := .type "dict_values", data := .fields #[.ref a] }).objs.size := List.mem_singleton.mp hmem
      have e2 := Heap.lt_size e
      rw [hsz] at e1
      rw [e1] at e2
      exact absurd e2 (Nat.not_lt.mpr (Nat.le_succ _))) (Heap.get?_push_of_some _ (k1 b u e))
    rw [Moved.eq_with hmv]
    refine ⟨.int _, H1, I1.kept (t' := s'.toks) hk, ⟨t', rfl⟩, ?_⟩
    rw [preSum_take, hlv, List.take_length]
    exact q
end
/-! steps -/
def gSumV (x : V) (H : Hp) (Q : VK) : Prop := ∃ (a : Addr) (kvs : List (Key × V)) (is : List Int), x = V.ref a ∧ H a = some (.dK kvs) ∧ kvs.map (·.2) = is.map V.int ∧ Q (.int is.sum) H
def gIns (C : Addr) (x : V) (H : Hp) (R : Prop) : Prop := ∃ a dx fs, x = V.ref a ∧ H a = some (.ins C dx fs) ∧ R
section
variable {l : List Asn} {H : Hp} {σ : L2.St} {td ta : TE} {Q : VK} {d p C : Addr} {m : List (Str × Int)} {g : Str → Int} {sp : Sp} {E : XK} {dvs : List V} {e : Nat}
theorem r_sumVals (q : td σ H fun x H1 => gSumV x H1 Q) : tSumVals td σ H Q := q
theorem sum_mp (S : Sep l H) (hi : l[e]? = some (At d (.dK (mp m)))) (q : Q (.int (m.map (·.2)).sum) H) : gSumV (.ref d) H Q := ⟨d, mp m, m.map (·.2), rfl, S.at hi, by rw [List.map_map, List.map_map]; rfl, q⟩
theorem r_prop (q : ta σ H fun x H1 => gIns C x H1 (sp (x :: dvs) H1 Q E)) : tProp C sp dvs E ta σ H Q := by
  have e : (fun (x : V) (H1 : Hp) => ∃ a dx fs, x = V.ref a ∧ H1 a = some (.ins C dx fs) ∧ sp (V.ref a :: dvs) H1 Q E) = fun x H1 => gIns C x H1 (sp (x :: dvs) H1 Q E) :=
    funext fun x => funext fun H1 => propext ⟨fun ⟨a, dx, fs, e, h, q⟩ => ⟨a, dx, fs, e, h, e ▸ q⟩, fun ⟨a, dx, fs, e, h, q⟩ => ⟨a, dx, fs, e, h, e ▸ q⟩⟩
  show ta σ H (fun (x : V) (H1 : Hp) => ∃ a dx fs, x = V.ref a ∧ H1 a = some (.ins C dx fs) ∧ sp (V.ref a :: dvs) H1 Q E)
  rw [e]; exact q
theorem ins_co (S : Sep l H) (hi : l[e]? = some (Co p C g)) : ∃ dx fs, H p = some (.ins C dx fs) := by
  obtain ⟨d, m, _, _, S1⟩ := co_open (S.pick hi)
  obtain ⟨dx, h⟩ := ob_at S1 (e := 0) rfl
  exact ⟨dx, _, h⟩
theorem gi_co {R : Prop} (S : Sep l H) (hi : l[e]? = some (Co p C g)) (q : R) : gIns C (.ref p) H R := by
  obtain ⟨dx, fs, h⟩ := ins_co S hi
  exact ⟨p, dx, fs, rfl, h, q⟩
theorem s_co {i v : V} {N : Hp → Prop} (S : Sep l H) (hi : l[e]? = some (Co p C g)) (q : sp [.ref p, i, v] H (fun _ H' => N H') E) : rSetOwn C sp E (.ref p) i v H N := by
  obtain ⟨dx, fs, h⟩ := ins_co S hi
  exact ⟨p, dx, fs, rfl, h, q⟩
end
local macro_rules | `(tactic| walk_at "v1") => `(tactic| (first
  | with_reducible refine r_sumVals ?_
  | with_reducible refine r_prop ?_
  | ((with_reducible refine' sum_mp (by assumption) ?hi ?_); (case hi => walk_at "has"))
  | ((with_reducible refine' gi_co (by assumption) ?hi ?_); (case hi => walk_at "has"))
  | ((with_reducible refine' s_co (by assumption) ?hi ?_); (case hi => walk_at "has"))))

/-! dicts of words and numbers compared, listed, joined; own operators walked -/
/-! ### d == e -/
def mpEq (m1 m2 : List (Str × Int)) : Bool := (m1.length == m2.length) && m1.all fun x => decide (x.1 ∈ keys m2) && (x.2 == num m2 x.1)
theorem hits_mp {A : Around} {s : Shared} {m2 : List (Str × Int)} {vb : List (Key × Value)} (rb : KV (mp m2) vb) : ∀ (m1 : List (Str × Int)) {va : List (Key × Value)}, KV (mp m1) va →
    PySem.W.KeqHits A s vb va (m1.all fun x => decide (x.1 ∈ keys m2) && (x.2 == num m2 x.1))
  | [], va, ra => by
    unfold KV at ra
    cases ra
    exact .nil
  | x :: m1, va, ra => by
    unfold KV at ra
    cases ra with
    | @cons p q ps qs h t =>
      obtain ⟨h1, h2⟩ := h
      obtain ⟨k, v⟩ := q
      have h1' : (Sum.inr x.1 : Key) = k := h1
      subst h1'
      have ih := hits_mp (A := A) (s := s) rb m1 t
      have rr : RelO (valV (mp m2) (Sum.inr x.1 : Key)) (valueAt vb (Sum.inr x.1)) := rb.val (Sum.inr x.1)
      rw [val_mp] at rr
      show PySem.W.KeqHits A s vb ((Sum.inr x.1, v) :: qs) ((decide (x.1 ∈ keys m2) && (x.2 == num m2 x.1)) && m1.all fun x => decide (x.1 ∈ keys m2) && (x.2 == num m2 x.1))
      by_cases hk : x.1 ∈ keys m2
      · rw [if_pos hk] at rr
        obtain ⟨y, hy, ry⟩ := rr.some_of
        obtain ⟨t1, e1⟩ := (show ∃ t, v = Value.int x.2 t from h2)
        obtain ⟨t2, e2⟩ := (show ∃ t, y = Value.int (num m2 x.1) t from ry)
        subst e1; subst e2
        rw [decide_eq_true hk, Bool.true_and]
        exact .hit hy (SeqAt.EqAt.int_int _ _ _ _) ih
      · rw [if_neg hk] at rr
        rw [decide_eq_false hk, Bool.false_and, Bool.false_and]
        refine .miss ?_
        cases hv : valueAt vb (Sum.inr x.1) with
        | none => rfl
        | some y => rw [hv] at rr; exact rr.elim
section
variable {X : Cx}
def rEqMp (neg : Bool) : R2 := fun x y H Q => ∃ a b m1 m2, x = .ref a ∧ y = .ref b ∧ H a = some (.dK (mp m1)) ∧ H b = some (.dK (mp m2)) ∧ Q (.bl (if neg then !(mpEq m1 m2) else mpEq m1 m2)) H
theorem op_eqMp (hu : X.A.units < cLine) : OpR X (compareOp .Eq) (rEqMp false) := by
  intro pins s σ H x y v u Q I rx ry h
  obtain ⟨a, b, m1, m2, rfl, rfl, ea, eb, q⟩ := h
  obtain rfl : v = Value.ref a := rx
  obtain rfl : u = Value.ref b := ry
  obtain ⟨_, ya, va, ra, da⟩ := (show ObjOk X.prog X.w H s.heap a (.dK (mp m1)) from I.hok a _ ea)
  obtain ⟨_, yb, vb, rb, db⟩ := (show ObjOk X.prog X.w H s.heap b (.dK (mp m2)) from I.hok b _ eb)
  have hl1 : va.length = m1.length := by rw [← ra.length, List.length_map]
  have hl2 : vb.length = m2.length := by rw [← rb.length, List.length_map]
  exact PySem.W.keq_eq (knd := mixKind X.prog X.w) ya yb da db hu (fun _ => hits_mp rb m1 ra) (fin_bl I q (by rw [hl1, hl2]; rfl))
theorem op_neMp (hu : X.A.units < cLine) : OpR X (compareOp .NotEq) (rEqMp true) := by
  intro pins s σ H x y v u Q I rx ry h
  obtain ⟨a, b, m1, m2, rfl, rfl, ea, eb, q⟩ := h
  obtain rfl : v = Value.ref a := rx
  obtain rfl : u = Value.ref b := ry
  obtain ⟨_, ya, va, ra, da⟩ := (show ObjOk X.prog X.w H s.heap a (.dK (mp m1)) from I.hok a _ ea)
  obtain ⟨_, yb, vb, rb, db⟩ := (show ObjOk X.prog X.w H s.heap b (.dK (mp m2)) from I.hok b _ eb)
  have hl1 : va.length = m1.length := by rw [← ra.length, List.length_map]
  have hl2 : vb.length = m2.length := by rw [← rb.length, List.length_map]
  exact PySem.W.keq_ne (knd := mixKind X.prog X.w) ya yb da db hu (fun _ => hits_mp rb m1 ra) (fin_bl I q (by rw [hl1, hl2]; rfl))
end
theorem good_val {m : List (Str × Int)} (h : Good m) {w : Str} (hw : w ∈ keys m) : num m w ≠ 0 := by
  have hx := key_num h.1 hw
  exact (h.2.1 _ hx).1
theorem good_mem {m : List (Str × Int)} (h : Good m) {w : Str} : w ∈ keys m ↔ num m w ≠ 0 :=
  ⟨good_val h, fun z => Classical.byContradiction fun y => z (num_none y)⟩
theorem good_eq {m1 m2 : List (Str × Int)} (h1 : Good m1) (h2 : Good m2) : mpEq m1 m2 = true ↔ num m1 = num m2 := by
  constructor
  · intro hh
    unfold mpEq at hh
    simp only [Bool.and_eq_true, beq_iff_eq, List.all_eq_true, decide_eq_true_eq] at hh
    obtain ⟨hl, ha⟩ := hh
    funext w
    have hs : ∀ w, w ∈ keys m2 → w ∈ keys m1 := by
      intro w hw
      refine Classical.byContradiction fun z => ?_
      have hn : (w :: keys m1).Nodup := List.nodup_cons.2 ⟨z, h1.1⟩
      have := nodup_le hn (m := keys m2) fun x hx => by
        rcases List.mem_cons.1 hx with rfl | hx
        · exact hw
        · obtain ⟨y, hy, ey⟩ := List.mem_map.1 hx
          rw [← ey]
          exact (ha y hy).1
      unfold keys at this
      simp only [List.length_cons, List.length_map] at this
      omega
    by_cases hw : w ∈ keys m1
    · obtain ⟨y, hy, ey⟩ := List.mem_map.1 hw
      rw [← show y.1 = w from ey, num_at h1.1 hy]
      exact (ha y hy).2
    · rw [num_none hw, num_none fun z => hw (hs w z)]
  · intro e
    have hk : ∀ w, w ∈ keys m1 ↔ w ∈ keys m2 := fun w => by rw [good_mem h1, good_mem h2, e]
    have hl : m1.length = m2.length := by
      have a := nodup_le h1.1 (m := keys m2) fun x hx => (hk x).1 hx
      have b := nodup_le h2.1 (m := keys m1) fun x hx => (hk x).2 hx
      unfold keys at a b
      rw [List.length_map, List.length_map] at a b
      omega
    unfold mpEq
    rw [hl, beq_self_eq_true, Bool.true_and, List.all_eq_true]
    intro x hx
    rw [decide_eq_true ((hk x.1).1 (List.mem_map_of_mem hx)), Bool.true_and, ← e, num_at h1.1 hx]
    exact beq_self_eq_true _
/-! ### list(d) -/
def gListD (xs : List V) (H : Hp) (Q : VK) : Prop := ∃ (a : Addr) (kvs : List (Key × V)), xs = [.ref a] ∧ Rd H a (.dK kvs) ∧ ∀ p, H p = Option.none → Q (.ref p) (upd H p (.lst (kvs.map fun kv => kV kv.1)))
theorem call_gListD {X : Cx} (hc : X.calm = true) : CallR X (.type "list") gListD := call_listD hc
section
variable {l : List Asn} {H : Hp} {d : Addr} {m : List (Str × Int)} {e : Nat} {Q : VK} {a b : Addr} {m1 m2 : List (Str × Int)} {e2 : Nat}
theorem kv_mp (m : List (Str × Int)) : ((mp m).map fun kv => kV kv.1) = (keys m).map V.str := by
  unfold keys
  rw [List.map_map, List.map_map]
  exact List.map_congr_left fun _ _ => rfl
theorem ld_mp (S : Sep l H) (hi : l[e]? = some (At d (.dK (mp m)))) (k : ∀ p H', Sep (At p (.lst ((keys m).map V.str)) :: l) H' → Q (.ref p) H') : gListD [.ref d] H Q :=
  ⟨d, mp m, rfl, .inl (S.at hi), fun p hp => by rw [kv_mp]; exact k p _ (S.new hp)⟩
theorem eq_mp (S : Sep l H) (hi : l[e]? = some (At a (.dK (mp m1)))) (hj : l[e2]? = some (At b (.dK (mp m2)))) (q : Q (.bl (mpEq m1 m2)) H) : rEqMp false (.ref a) (.ref b) H Q :=
  ⟨a, b, m1, m2, rfl, rfl, S.at hi, S.at hj, q⟩
theorem ne_mp (S : Sep l H) (hi : l[e]? = some (At a (.dK (mp m1)))) (hj : l[e2]? = some (At b (.dK (mp m2)))) (q : Q (.bl (!(mpEq m1 m2))) H) : rEqMp true (.ref a) (.ref b) H Q :=
  ⟨a, b, m1, m2, rfl, rfl, S.at hi, S.at hj, q⟩
end
local macro_rules | `(tactic| walk_at "v1") => `(tactic| (first
  | ((with_reducible refine' ld_mp (by assumption) ?hi ?_); (case hi => walk_at "has"); intro _ _ _)
  | ((with_reducible refine' eq_mp (by assumption) ?hi ?hj ?_); (case hi => walk_at "has"); (case hj => walk_at "has"))
  | ((with_reducible refine' ne_mp (by assumption) ?hi ?hj ?_); (case hi => walk_at "has"); (case hj => walk_at "has"))))
/-! ### a op b, own -/
section
variable {l : List Asn} {H : Hp} {C p q : Addr} {g h : Str → Int} {sp : Sp} {E : XK} {Q : VK} {e e2 : Nat}
theorem b_co (S : Sep l H) (hi : l[e]? = some (Co p C g)) (hj : l[e2]? = some (Co q C h)) (k : sp [.ref p, .ref q] H Q E) : rBinOwn C sp E (.ref p) (.ref q) H Q := by
  obtain ⟨dx, fs, h1⟩ := ins_co S hi
  obtain ⟨dy, gs, h2⟩ := ins_co S hj
  exact ⟨p, dx, fs, q, dy, gs, rfl, rfl, h1, h2, k⟩
/-- isinstance of counts -/
theorem i_co {D : Addr} {b : Bool} {K : PySem.W.Frag} {ns : List Str} (S : Sep l H) (hi : l[e]? = some (Co p C g)) (hC : Kl K C ns) (ki : Ki K C) (hk : PySem.W.kitOne K (.ref C) (.ref D) = some b) (k : Q (.bl b) H) : gIsi K [.ref p, .ref D] H Q := by
  obtain ⟨d, m, _, _, S1⟩ := co_open (S.pick hi)
  exact i_ob S1 (e := 0) rfl hC ki hk k
theorem i_coT {T : String} {b : Bool} {K : PySem.W.Frag} {ns : List Str} (S : Sep l H) (hi : l[e]? = some (Co p C g)) (hC : Kl K C ns) (ki : Ki K C) (hk : PySem.W.kitOne K (.ref C) (.type T) = some b) (k : Q (.bl b) H) : gIsi K [.ref p, .ty T] H Q := by
  obtain ⟨d, m, _, _, S1⟩ := co_open (S.pick hi)
  exact i_obT S1 (e := 0) rfl hC ki hk k
end
local macro_rules | `(tactic| walk_at "v1") => `(tactic| (first
  | ((with_reducible refine' b_co (by assumption) ?hi ?hj ?_); (case hi => walk_at "has"); (case hj => walk_at "has"))
  | ((with_reducible refine' i_co (by assumption) ?hi ?hC ?ki ?hk ?_); (case hi => walk_at "has"); (case hC => assumption); (case ki => assumption); (case hk => assumption))))

/-! more own operators of instances with a dict: -o, abs(o), n * o, o op= x, x in o, o[i], truth, != by ==, repr -/
section
open PyProof.Rows
section
variable {X : Cx} {CX : CXT} {n : Nat} {f C : Addr} {sp : Sp} {E : XK}
/-- a one-place own method -/
def rUnOwn (C : Addr) (sp : Sp) (E : XK) : V → Hp → VK → Prop := fun x H Q => ∃ a dx fs, x = V.ref a ∧ H a = some (.ins C dx fs) ∧ sp [V.ref a] H Q E
theorem un_ownNeg (hm : Meth X.K C (Str.ofString "__neg__") f) (F : FnR X.prog X.w X.K X.mg X.base CX n f sp) (hr : Room n X.A) (hx : Passes CX X E) : UnR X (unaryOp .USub) (rUnOwn C sp E) := by
  intro pins s σ H x v Q I rx h
  obtain ⟨a, dx, fs, rfl, ha, q⟩ := h
  cases (show v = Value.ref a from rx)
  obtain ⟨ox, od, J⟩ := ins_inst I ha
  obtain ⟨m, hF⟩ := I.fr
  exact PySem.W.ksp_neg hF I.ok.mod.kin J hm.at_ hm.fn (wpAny_call (run_fnR (us := [.ref a]) (vs := [.ref a]) F hr hx I (.cons rfl .nil) q))
/-- abs(o) -/
def rAbsOwn (C : Addr) (sp : Sp) (E : XK) : List V → Hp → VK → Prop := fun xs H Q => ∃ a dx fs, xs = [V.ref a] ∧ H a = some (.ins C dx fs) ∧ sp [V.ref a] H Q E
theorem call_ownAbs (hm : Meth X.K C (Str.ofString "__abs__") f) (F : FnR X.prog X.w X.K X.mg X.base CX n f sp) (hr : Room (n + 1) X.A) (hx : Passes CX X E) : CallR X (.builtin "abs") (rAbsOwn C sp E) := by
  intro pins s σ H xs us Q I r h
  obtain ⟨a, dx, fs, rfl, ha, q⟩ := h
  obtain ⟨u, rfl, ru⟩ := r.one
  cases (show u = Value.ref a from ru)
  obtain ⟨ox, od, J⟩ := ins_inst I ha
  obtain ⟨m, hF⟩ := I.fr
  refine Calls.call_function_entry PyProof.Rows.kind_abs PyProof.Rows.plain_abs PyProof.Rows.entry_abs (PyProof.Rows.args_abs _) ?_
  unfold Builtin.«abs»
  refine wpAny_bind (m := oneArg "abs" _) (wpAny_pure ?_)
  refine wpAny_bind (m := callSpecial? (.ref a) (Str.ofString "__abs__")) (PySem.W.special_fn (I.ok.mod.kin.keeps hF.keep) J hm.at_ (beq_iff_eq.mp hm.fn) ?_)
  refine wpAny_mono (wpAny_call (SlX.run_at (us := [.ref a]) (ws := [.ref a]) F (show Room n X.A.in1 from Room.in1 hr) I.env0.in1 hx I (.cons rfl .nil) q)) (fun w s' z => ?_) fun _ _ x => x
  exact wpAny_pure ⟨_, rfl, z⟩
/-- o op= y -/
def rInpOwn (C : Addr) (sp : Sp) (E : XK) : TIp := fun x y H Q => ∃ a dx fs, x = V.ref a ∧ H a = some (.ins C dx fs) ∧ sp [V.ref a, y] H Q E
theorem ip_own {op : Operator} (hm : Meth X.K C (PySem.dunderI op.info.2) f) (hs : PySem.W.selfFirst X.K C = true) (F : FnR X.prog X.w X.K X.mg X.base CX n f sp) (hr : Room n X.A) (hx : Passes CX X E) : PIp X op (rInpOwn C sp E) := by
  intro pins s σ H x y v u Q I rx ry h
  obtain ⟨a, dx, fs, rfl, ha, q⟩ := h
  cases (show v = Value.ref a from rx)
  obtain ⟨ox, od, J⟩ := ins_inst I ha
  obtain ⟨m, hF⟩ := I.fr
  refine PySem.W.ksp_inplace hF I.ok.mod.kin J hs hm.at_ hm.fn ?_
  refine wpAny_mono (wpAny_call (run_fnR (us := [.ref a, u]) (vs := [.ref a, y]) F hr hx I (.cons rfl (.cons ry .nil)) q)) (fun w s' z => ?_) fun _ _ x => x
  obtain ⟨z', H', I', rz, qz⟩ := z
  exact SlX.cmpback rz ⟨z', H', I', rz, qz⟩
/-- x in o -/
def rInOwn (neg : Bool) (C : Addr) (sp : Sp) (E : XK) : R2 := fun x y H Q => ∃ a dx fs, y = V.ref a ∧ H a = some (.ins C dx fs) ∧ sp [V.ref a, x] H (fun z H' => ∃ b : Bool, z = .bl b ∧ Q (.bl (if neg then !b else b)) H') E
theorem op_ownIn (hm : Meth X.K C (Str.ofString "__contains__") f) (F : FnR X.prog X.w X.K X.mg X.base CX n f sp) (hr : Room n X.A) (hx : Passes CX X E) : OpR X (compareOp .In) (rInOwn false C sp E) := by
  intro pins s σ H x y v u Q I rx ry h
  obtain ⟨a, dx, fs, rfl, ha, q⟩ := h
  cases (show u = Value.ref a from ry)
  obtain ⟨ox, od, J⟩ := ins_inst I ha
  obtain ⟨m, hF⟩ := I.fr
  refine PySem.W.in_K hF I.ok.mod.kin J hm.at_ hm.fn ?_
  refine wpAny_mono (wpAny_call (run_fnR (us := [.ref a, v]) (vs := [.ref a, x]) F hr hx I (.cons rfl (.cons rx .nil)) q)) (fun w s' z => ?_) fun _ _ x => x
  obtain ⟨z', H', I', rz, b, ez, qz⟩ := z
  subst ez
  cases (show w = Value.bool b from rz)
  exact wpAny_truthy_bool ⟨.bl b, H', I', rfl, qz⟩
/-- truth of o by __bool__ -/
def rTruOwn (C : Addr) (sp : Sp) (E : XK) : V → Hp → (Bool → Hp → Prop) → Prop := fun x H Q => ∃ a dx fs, x = V.ref a ∧ H a = some (.ins C dx fs) ∧ sp [V.ref a] H (fun z H' => ∃ b : Bool, z = .bl b ∧ Q b H') E
theorem tru_own (hm : Meth X.K C (Str.ofString "__bool__") f) (F : FnR X.prog X.w X.K X.mg X.base CX n f sp) (hr : Room n X.A) (hx : Passes CX X E) : TruR X (rTruOwn C sp E) := by
  intro pins s σ H x v Q I rx h
  obtain ⟨a, dx, fs, rfl, ha, q⟩ := h
  cases (show v = Value.ref a from rx)
  obtain ⟨ox, od, J⟩ := ins_inst I ha
  obtain ⟨m, hF⟩ := I.fr
  refine PySem.W.truthy_K hF I.ok.mod.kin J hm.at_ hm.fn ?_
  refine wpAny_mono (wpAny_call (run_fnR (us := [.ref a]) (vs := [.ref a]) F hr hx I (.cons rfl .nil) q)) (fun w s' z => ?_) fun _ _ x => x
  obtain ⟨z', H', I', rz, b, ez, qz⟩ := z
  subst ez
  cases (show w = Value.bool b from rz)
  exact ⟨H', I', qz⟩
/-- o[i] -/
theorem pe_ixOwn {a b : Expr} {ta tb : TE} {pos : Pos} (hm : Meth X.K C (Str.ofString "__getitem__") f) (hfn : PySem.W.fnIn X.K f = true) (F : FnR X.prog X.w X.K X.mg X.base CX n f sp) (hr : Room (n + 1) X.A) (hx : Passes CX X E) (ha : PE X a ta) (hb : PE X b tb)
    (hsl : ∀ o i, subscripted b true o i = runValue (.builtin "lifetime.subscript" ⟨[o, i], []⟩)) :
    PE X (.Subscript a b pos) (tOp (fun x y H Q => ∃ a dx fs, x = V.ref a ∧ H a = some (.ins C dx fs) ∧ sp [V.ref a, y] H Q E) ta tb) := by
  refine ⟨fun pins s σ H Q I h => ?_⟩
  refine Subscript_ (binT ha hb I h fun v u s2 x y H2 I2 rx ry q => ?_)
  obtain ⟨a', dx, fs, rfl, ha', q⟩ := q
  cases (show v = Value.ref a' from rx)
  obtain ⟨ox, od, J⟩ := ins_inst I2 ha'
  obtain ⟨m, hF⟩ := I2.fr
  refine PySem.W.sub_K hF I2.ok.mod.kin J hm.at_ hfn hm.fn ?_ (hsl _ _)
  exact wpAny_call (SlX.run_at (us := [.ref a', u]) (ws := [.ref a', y]) F (show Room n X.A.in1 from Room.in1 hr) I2.env0.in1 hx I2 (.cons rfl (.cons ry .nil)) q)
/-- o != p by an own == -/
theorem ifBound_objNe {M : Model} {A : Around} {E : Value → Shared → Prop} {s : Shared} {K : PySem.W.Frag} {x C : Addr} {ox : Obj} {od : Option Obj} {args : List Value} {Q : Option Value → Shared → Prop} (X : K.In s.heap) (I : PySem.W.InstAt s.heap x ox C od) (hs : PySem.W.findIn K (.ref C) "__ne__" = some (some (.builtin "object.__ne__")))
    (h : wpAny M A (call (.builtin "object.__ne__") (.ref x :: args)) (fun v => Q (some v)) E s) : wpAny M A (callSpecialIfBound? (.ref x) "__ne__" args) Q E s := by
  simp only [callSpecialIfBound?, bindSpecialIfBound?]
  refine wpAny_holding (wpAny_bind (wpAny_bind (wpAny_bind (I.type.here ((PySem.W.looks_findIn X hs).here ?_)))))
  refine wpAny_bind (wpAny_askSetting (wpAny_ite ?_))
  have fin : wpAny M A (call (.builtin "object.__ne__") ([.ref x] ++ args) >>= fun v => pure (some v)) Q E s := wpAny_bind (wpAny_mono h (fun v s' h' => wpAny_pure h') fun _ _ h' => h')
  split
  · exact wpAny_bind (wpAny_of_eq (F.cmp_object.ne.bind _) (wpAny_pure (by exact fin)))
  · exact wpAny_tryCatch (wpAny_bind (wpAny_of_eq (F.cmp_object.ne.bind _) (wpAny_pure (by exact fin))))
/-- o != p, both of C -/
def rNeOwn (C : Addr) (sp : Sp) (E : XK) : R2 := fun x y H Q => ∃ a dx fs b dy gs, x = V.ref a ∧ y = V.ref b ∧ H a = some (.ins C dx fs) ∧ H b = some (.ins C dy gs) ∧ sp [x, y] H (fun z H' => ∃ c : Bool, z = .bl c ∧ Q (.bl (!c)) H') E
/-- o != p, both of C, with an own == and none for != -/
theorem op_ownNe (hne : PySem.W.findIn X.K (.ref C) "__ne__" = some (some (.builtin "object.__ne__"))) (hob : PySem.W.mroIn X.K C (.type "object") = some true) (hm : Meth X.K C (Str.ofString "__eq__") f) (hs : PySem.W.notFirst X.K C (.ref C) = true) (F : FnR X.prog X.w X.K X.mg X.base CX n f sp) (hr : Room (n + 1) X.A) (hu : X.A.units + 64 < cLine) (hx : Passes CX X E) :
    OpR X (compareOp .NotEq) (rNeOwn C sp E) := by
  intro pins s σ H x y v u Q I rx ry h
  obtain ⟨a, dx, fs, b, dy, gs, rfl, rfl, ha, hb, q⟩ := h
  cases (show v = Value.ref a from rx)
  cases (show u = Value.ref b from ry)
  obtain ⟨ox, od, J⟩ := ins_inst I ha
  obtain ⟨ox', od', J'⟩ := ins_inst I hb
  obtain ⟨m, hF⟩ := I.fr
  have XK := I.ok.mod.kin.keeps hF.keep
  have entry : wpAny (model X.prog X.w) X.A.in1 (Builtin.«object.__ne__» ⟨[.ref a, .ref b], []⟩) (fun r s' => ∃ w, r = .done (.ret w) ∧ (w ≠ .notImplemented ∧ EP X pins σ Q w s')) X.xe s := by
    unfold Builtin.«object.__ne__»
    repeat (first
      | with_reducible refine wpAny_cRoomFor (show X.A.in1.units < cLine by show X.A.units + 1 < cLine; omega) ?_
      | (refine wpAny_bind (m := callSpecialIfBound? (.ref a) (Str.ofString "__eq__") [.ref b]) (PySem.W.ifBound_K XK J hm.at_ hm.fn
          (wpAny_mono (wpAny_call (SlX.run_at (us := [.ref a, .ref b]) (ws := [.ref a, .ref b]) F (show Room n X.A.in1 from Room.in1 hr) I.env0.in1 hx I (.cons rfl (.cons rfl .nil)) q)) (fun w s' z => by
            obtain ⟨z', H', I', rz, c, ez, qz⟩ := z
            subst ez
            cases (show w = Value.bool c from rz)
            repeat (first | exact ⟨_, rfl, nofun, .bl (!c), H', I', rfl, qz⟩ | exact wpAny_pure ⟨_, rfl, nofun, .bl (!c), H', I', rfl, qz⟩ | (refine wpAny_bind (m := truthy (.bool _)) (wpAny_truthy_bool ?_)) | wp_step)) fun _ _ e => e)))
      | wp_step)
  have one : wpAny (model X.prog X.w) X.A (tryCompare (.ref a) "__ne__" (.ref b)) (fun r s' => ∃ w, r = some w ∧ EP X pins σ Q w s') X.xe s := by
    unfold tryCompare
    refine wpAny_bind (ifBound_objNe XK J hne ?_)
    refine wpAny_call (codeAny_call_builtin PySem.F.cmp_object.ne.plain PySem.F.cmpEntry_ne (PySem.W.check_slot PySem.F.cmpKind_ne PySem.F.cmpSplit_ne (J.type.andThen (PySem.W.looks_mroIn XK hob)) (PySem.F.cmpArgs_ne _ _) (wpAny_mono entry (fun r s' z => ?_) fun _ _ e => e)))
    obtain ⟨w, rfl, hw, ep⟩ := z
    cases w <;> first | exact (hw rfl).elim | exact wpAny_pure ⟨_, rfl, ep⟩
  show wpAny _ _ (richCompare .NotEq (.ref a) (.ref b)) _ _ _
  unfold richCompare
  simp only [oneThing_ref]
  refine wpAny_holding (wpAny_bind (wpAny_cRoomFor (by omega) ?_))
  refine wpAny_bind (J.type.here (wpAny_bind (J'.type.here ?_)))
  rw [show (Value.ref C != Value.ref C) = false from by simp]
  simp only [Bool.false_eq_true, if_false]
  refine wpAny_bind (wpAny_pure ?_)
  simp only [Bool.false_eq_true, if_false]
  refine wpAny_bind (m := tryCompare (.ref a) _ (.ref b)) (wpAny_mono one (fun r s' z => ?_) fun _ _ e => e)
  obtain ⟨w, rfl, ep⟩ := z
  exact wpAny_pure ep
end

end
/-! how many words; two counts beside each other; steps of the own operators -/
/-- at most n words with a number -/
def Sz (g : Str → Int) (n : Nat) : Prop := ∃ ws : List Str, ws.length ≤ n ∧ ∀ w, g w ≠ 0 → w ∈ ws
theorem Sz.le {g : Str → Int} {n m : Nat} (h : Sz g n) (k : n ≤ m) : Sz g m := h.imp fun _ h => ⟨Nat.le_trans h.1 k, h.2⟩
theorem Sz.num {m : List (Str × Int)} : Sz (Y.num m) m.length := ⟨keys m, by unfold keys; rw [List.length_map]; exact Nat.le_refl _, fun w h => Classical.byContradiction fun z => h (num_none z)⟩
theorem Sz.of {m : List (Str × Int)} {g : Str → Int} {n : Nat} (e : Y.num m = g) (h : m.length ≤ n) : Sz g n := e ▸ Sz.num.le h
theorem Sz.zero : Sz (fun _ => 0) 0 := ⟨[], Nat.le_refl _, fun _ h => (h rfl).elim⟩
theorem Sz.map {g : Str → Int} {n : Nat} (f : Str → Int) (h : Sz g n) (k : ∀ w, g w = 0 → f w = 0) : Sz f n := h.imp fun _ h => ⟨h.1, fun w z => h.2 w fun y => z (k w y)⟩
theorem Sz.two {g h : Str → Int} {n m : Nat} (f : Str → Int) (a : Sz g n) (b : Sz h m) (k : ∀ w, g w = 0 → h w = 0 → f w = 0) : Sz f (n + m) := by
  obtain ⟨ws, h1, h2⟩ := a
  obtain ⟨us, h3, h4⟩ := b
  refine ⟨ws ++ us, by rw [List.length_append]; omega, fun w z => ?_⟩
  by_cases e : g w = 0
  · by_cases e2 : h w = 0
    · exact (z (k w e e2)).elim
    · exact List.mem_append_right _ (h4 w e2)
  · exact List.mem_append_left _ (h2 w e)
theorem Sz.put {g : Str → Int} {n : Nat} (h : Sz g n) (v : Str) (x : Int) : Sz (fun w => if w = v then x else g w) (n + 1) := by
  obtain ⟨ws, h1, h2⟩ := h
  refine ⟨v :: ws, by rw [List.length_cons]; omega, fun w z => ?_⟩
  by_cases e : w = v
  · rw [e]; exact List.mem_cons_self
  · have z : (if w = v then x else g w) ≠ 0 := z
    rw [if_neg e] at z
    exact List.mem_cons_of_mem _ (h2 w z)
theorem Sz.psum (ps : List (Str × Int)) : Sz (Y.psum ps) ps.length := by
  refine ⟨keys ps, by unfold keys; rw [List.length_map]; exact Nat.le_refl _, fun w h => ?_⟩
  induction ps with
  | nil => exact (h rfl).elim
  | cons x ps ih =>
    show w ∈ x.1 :: keys ps
    by_cases e : x.1 = w
    · rw [e]; exact List.mem_cons_self
    · refine List.mem_cons_of_mem _ (ih ?_)
      intro z
      refine h ?_
      show (if x.1 = w then x.2 else 0) + Y.psum ps w = 0
      rw [if_neg e, z]; rfl
theorem Good.sz {m : List (Str × Int)} {g : Str → Int} {n : Nat} (h : Good m) (e : Y.num m = g) (k : Sz g n) : m.length ≤ n := by
  obtain ⟨ws, h1, h2⟩ := k
  have := nodup_le h.1 (m := ws) fun w hw => h2 w (by rw [← e]; exact good_val h hw)
  unfold keys at this
  rw [List.length_map] at this
  omega
/-! ### del d[k] -/
def mdel (m : List (Str × Int)) (w : Str) : List (Str × Int) := m.filter fun x => decide (x.1 ≠ w)
theorem num_del (m : List (Str × Int)) (w v : Str) : num (mdel m w) v = if v = w then 0 else num m v := by
  induction m with
  | nil => unfold mdel; simp [num]
  | cons x m ih =>
    unfold mdel at ih ⊢
    rw [List.filter_cons]
    by_cases h : x.1 = w
    · rw [if_neg (by simp [h]), ih]
      show (if v = w then 0 else num m v) = if v = w then 0 else (if x.1 = v then x.2 else num m v)
      by_cases e : v = w
      · rw [if_pos e, if_pos e]
      · rw [if_neg e, if_neg e, if_neg (fun z => e (z.symm.trans h))]
    · rw [if_pos (decide_eq_true h)]
      show (if x.1 = v then x.2 else num _ v) = if v = w then 0 else (if x.1 = v then x.2 else num m v)
      rw [ih]
      by_cases e : v = w
      · rw [if_pos e, if_pos e, if_neg (fun z => h (z.trans e))]
      · rw [if_neg e, if_neg e]
theorem drop_mp (m : List (Str × Int)) (w : Str) : dropK (mp m) (Sum.inr w : Key) = mp (mdel m w) := by
  unfold dropK mdel
  induction m with
  | nil => rfl
  | cons x m ih =>
    show List.filter _ ((Sum.inr x.1, V.int x.2) :: mp m) = _
    rw [List.filter_cons, List.filter_cons, ih]
    by_cases h : x.1 = w
    · rw [if_neg (by simp [h]), if_neg (by simp [h])]
    · rw [if_pos (by simp [h]), if_pos (decide_eq_true h)]; rfl
theorem good_del {m : List (Str × Int)} (h : Good m) (w : Str) : Good (mdel m w) :=
  ⟨List.Nodup.sublist (List.Sublist.map _ List.filter_sublist) h.1, fun x hx => h.2.1 x (List.mem_filter.1 hx).1, Nat.le_trans (List.length_filter_le _ _) h.2.2⟩
section
variable {l : List Asn} {H : Hp} {σ : L2.St} {d : Addr} {m : List (Str × Int)} {w : Str} {e : Nat} {td ty : TE} {nx bk ct : L2.St → Hp → Prop} {rt : VK}
def gDDel (x y : V) (H : Hp) (R : Hp → Prop) : Prop := ∃ a kvs k, x = .ref a ∧ H a = some (.dK kvs) ∧ y = kV k ∧ (valV kvs k).isSome = true ∧ R (upd H a (.dK (dropK kvs k)))
theorem r_ddel (q : td σ H fun x H1 => ty σ H1 fun y H2 => gDDel x y H2 fun H3 => nx σ H3) : sDDel td ty ⟨nx, rt, bk, ct⟩ σ H := q
theorem dl_mp {R : Hp → Prop} (S : Sep l H) (hi : l[e]? = some (At d (.dK (mp m)))) (hw : w ∈ keys m) (k : ∀ H', Sep (l.set e (At d (.dK (mp (mdel m w))))) H' → R H') : gDDel (.ref d) (.str w) H R :=
  ⟨d, mp m, Sum.inr w, rfl, S.at hi, rfl, by rw [val_mp, if_pos hw]; rfl, by rw [drop_mp]; exact k _ (S.upd hi fun _ z => nomatch z)⟩
end
/-! ### x in d, x not in d -/
section
variable {l : List Asn} {H : Hp} {σ : L2.St} {d : Addr} {m : List (Str × Int)} {w : Str} {e : Nat} {td ty : TE} {Q : VK} {RO : Option V → Prop}
theorem d_notin (q : ty σ H fun y H1 => td σ H1 fun x H2 => ∃ a o, x = .ref a ∧ DGet H2 a y o ∧ Q (.bl (!o.isSome)) H2) : tDNotIn ty td σ H Q := q
theorem e_inF {od : Obj} (S : Sep l H) (hi : l[e]? = some (At d (.frz od (.dK (mp m))))) (q : ∀ o : Option V, o.isSome = decide (w ∈ keys m) → RO o) : ∃ a o, V.ref d = .ref a ∧ DGet H a (.str w) o ∧ RO o := ⟨d, _, rfl, dget_of (.inr ⟨od, S.at hi⟩), q _ (by
  rw [val_mp]
  by_cases hw : w ∈ keys m
  · rw [decide_eq_true hw, if_pos hw]; rfl
  · rw [decide_eq_false hw, if_neg hw]; rfl)⟩
end
local macro_rules | `(tactic| walk_at "v1") => `(tactic| (first
  | with_reducible refine d_notin ?_
  | ((with_reducible refine' e_inF (by assumption) ?hi ?_); (case hi => walk_at "has"); (refine fun o ho => ?_); rw [ho]; clear ho)))
/-! ### min, max of two -/
def gMin2 : List V → Hp → VK → Prop := fun xs H Q => ∃ i j, xs = [V.int i, V.int j] ∧ Q (V.int (if j < i then j else i)) H
def gMax2 : List V → Hp → VK → Prop := fun xs H Q => ∃ i j, xs = [V.int i, V.int j] ∧ Q (V.int (if j > i then j else i)) H
theorem call_gMin2 {X : Cx} (hc : X.calm = true) : CallR X (.builtin "min") gMin2 := call_min2 hc
theorem call_gMax2 {X : Cx} (hc : X.calm = true) : CallR X (.builtin "max") gMax2 := call_max2 hc
section
variable {l : List Asn} {H : Hp} {σ : L2.St} {Q : VK} {m n : Int} {p q C : Addr} {g h : Str → Int} {sp : Sp} {E : XK} {e e2 : Nat} {K : PySem.W.Frag} {x y : V}
theorem o_min2 (k : Q (.int (if n < m then n else m)) H) : gMin2 [.int m, .int n] H Q := ⟨m, n, rfl, k⟩
theorem o_max2 (k : Q (.int (if n > m then n else m)) H) : gMax2 [.int m, .int n] H Q := ⟨m, n, rfl, k⟩
theorem u_co (S : Sep l H) (hi : l[e]? = some (Co p C g)) (k : sp [.ref p] H Q E) : rUnOwn C sp E (.ref p) H Q := by
  obtain ⟨dx, fs, h1⟩ := ins_co S hi
  exact ⟨p, dx, fs, rfl, h1, k⟩
theorem ab_co (S : Sep l H) (hi : l[e]? = some (Co p C g)) (k : sp [.ref p] H Q E) : rAbsOwn C sp E [.ref p] H Q := by
  obtain ⟨dx, fs, h1⟩ := ins_co S hi
  exact ⟨p, dx, fs, rfl, h1, k⟩
theorem ip_co (S : Sep l H) (hi : l[e]? = some (Co p C g)) (k : sp [.ref p, y] H Q E) : rInpOwn C sp E (.ref p) y H Q := by
  obtain ⟨dx, fs, h1⟩ := ins_co S hi
  exact ⟨p, dx, fs, rfl, h1, k⟩
theorem in_co {neg : Bool} (S : Sep l H) (hi : l[e]? = some (Co p C g)) (k : sp [.ref p, x] H (fun z H' => ∃ b : Bool, z = .bl b ∧ Q (.bl (if neg then !b else b)) H') E) : rInOwn neg C sp E x (.ref p) H Q := by
  obtain ⟨dx, fs, h1⟩ := ins_co S hi
  exact ⟨p, dx, fs, rfl, h1, k⟩
theorem ix_co {y : V} (S : Sep l H) (hi : l[e]? = some (Co p C g)) (k : sp [.ref p, y] H Q E) : ∃ a dx fs, V.ref p = V.ref a ∧ H a = some (.ins C dx fs) ∧ sp [V.ref a, y] H Q E := by
  obtain ⟨dx, fs, h1⟩ := ins_co S hi
  exact ⟨p, dx, fs, rfl, h1, k⟩
theorem tr_co {R : Bool → Hp → Prop} (S : Sep l H) (hi : l[e]? = some (Co p C g)) (k : sp [.ref p] H (fun z H' => ∃ b : Bool, z = .bl b ∧ R b H') E) : rTruOwn C sp E (.ref p) H R := by
  obtain ⟨dx, fs, h1⟩ := ins_co S hi
  exact ⟨p, dx, fs, rfl, h1, k⟩
end
local macro_rules | `(tactic| walk_at "v1") => `(tactic| (first
  | with_reducible refine r_ddel ?_
  | with_reducible refine o_min2 ?_
  | with_reducible refine o_max2 ?_
  | ((with_reducible refine' dl_mp (by assumption) ?hi (by assumption) ?_); (case hi => walk_at "has"); intro _ S; simp only [List.set] at S)
  | ((with_reducible refine' u_co (by assumption) ?hi ?_); (case hi => walk_at "has"))
  | ((with_reducible refine' ab_co (by assumption) ?hi ?_); (case hi => walk_at "has"))
  | ((with_reducible refine' ip_co (by assumption) ?hi ?_); (case hi => walk_at "has"))
  | ((with_reducible refine' in_co (by assumption) ?hi ?_); (case hi => walk_at "has"))
  | ((with_reducible refine' ix_co (by assumption) ?hi ?_); (case hi => walk_at "has"))
  | ((with_reducible refine' tr_co (by assumption) ?hi ?_); (case hi => walk_at "has"))))
/-! ### words with two numbers -/
abbrev tri (g h : Str → Int) (ws : List Str) : List PyData := ws.map fun w => PyData.tuple [.str w, .int (g w), .int (h w)]
/-- ws are words, each once, and all that have a number -/
def Bs (g h : Str → Int) (ws : List Str) : Prop := ws.Nodup ∧ (∀ w ∈ ws, Wd w) ∧ ∀ w, w ∉ ws → g w = 0 ∧ h w = 0
theorem tri_get {H : Hp} {vs : List V} {g h : Str → Int} {ws : List Str} {i : Nat} {v : V} (D : IsDs H vs (tri g h ws)) (e : vs[i]? = some v) : ∃ q w, ws[i]? = some w ∧ v = .ref q ∧ H q = some (.tup [.str w, .int (g w), .int (h w)]) := by
  obtain ⟨d, e1, h1⟩ := D.get e
  rw [List.getElem?_map] at e1
  cases e2 : ws[i]? with
  | none => rw [e2] at e1; cases e1
  | some w =>
    rw [e2] at e1
    cases e1
    cases h1 with
    | tup hq r =>
      cases r with
      | cons a r =>
        cases a
        cases r with
        | cons b r =>
          cases b
          cases r with
          | cons c r =>
            cases c
            cases r
            exact ⟨_, w, rfl, rfl, hq⟩
theorem tri_isD {H : Hp} {q : Addr} {w : Str} {m n : Int} (h : H q = some (.tup [.str w, .int m, .int n])) : IsD H (.ref q) (.tuple [.str w, .int m, .int n]) :=
  .tup h (.cons (.str w) (.cons (.int m) (.cons (.int n) .nil)))
theorem tri_len {H : Hp} {vs : List V} {g h : Str → Int} {ws : List Str} (D : IsDs H vs (tri g h ws)) : vs.length = ws.length := by rw [D.len, List.length_map]
/-- the words with what f says of them -/
abbrev fps (f : Str → Int) (ws : List Str) : List (Str × Int) := ws.map fun w => (w, f w)
theorem keys_fps (f : Str → Int) (ws : List Str) : keys (fps f ws) = ws := by
  unfold keys
  rw [List.map_map]
  conv => rhs; rw [← List.map_id ws]
  exact List.map_congr_left fun _ _ => rfl
theorem num_fps {f : Str → Int} : ∀ {ws : List Str}, ws.Nodup → (∀ w, w ∉ ws → f w = 0) → num (fps f ws) = f := by
  intro ws hn h0
  funext w
  by_cases hw : w ∈ ws
  · have := num_at (m := fps f ws) (x := (w, f w)) (by rw [keys_fps]; exact hn) (List.mem_map.2 ⟨w, hw, rfl⟩)
    exact this
  · rw [h0 w hw]
    exact num_none (by rw [keys_fps]; exact hw)
theorem fps_snoc {H : Hp} {f : Str → Int} {us : List V} {ws : List Str} {w : Str} {q : Addr} (D : IsDs H us (pds (fps f ws))) (h : H q = some (.tup [.str w, .int (f w)])) : IsDs H (us ++ [.ref q]) (pds (fps f (ws ++ [w]))) := by
  have h1 := IsDs.snoc (pair_isD h) D
  have e : pds (fps f ws) ++ [pd (w, f w)] = pds (fps f (ws ++ [w])) := by simp
  rw [← e]; exact h1
theorem fps_wd {f : Str → Int} {ws : List Str} (h : ∀ w ∈ ws, Wd w) : ∀ x ∈ fps f ws, Wd x.1 := fun x hx => by
  obtain ⟨w, hw, rfl⟩ := List.mem_map.1 hx
  exact h w hw
/-- counts at an index -/
theorem Sep.co {l : List Asn} {H : Hp} {i : Nat} {p C : Addr} {g : Str → Int} (S : Sep l H) (e : l[i]? = some (Co p C g)) : ∃ d m, Good m ∧ num m = g ∧ Sep (Ob p C [("_numbers", .ref d)] :: At d (.dK (mp m)) :: l.eraseIdx i) H := co_open (S.pick e)
theorem Sep.coBack {l : List Asn} {H : Hp} {i : Nat} {p C d : Addr} {g : Str → Int} {m : List (Str × Int)} (e : l[i]? = some (Co p C g)) (h : Good m) (h2 : num m = g) (S : Sep (Ob p C [("_numbers", .ref d)] :: At d (.dK (mp m)) :: l.eraseIdx i) H) : Sep l H := Sep.backS e (co_close h h2 S)

/-! walks over a dict that is an attribute; counts and ints multiplied -/
theorem mp_get' {m : List (Str × Int)} {i : Nat} {k : Key} {v : V} (h : (mp m)[i]? = some (k, v)) : ∃ w n, m[i]? = some (w, n) ∧ k = Sum.inr w ∧ v = .int n := by
  rw [List.getElem?_map] at h
  cases e : m[i]? with
  | none => rw [e] at h; cases h
  | some x =>
    rw [e] at h
    cases h
    exact ⟨x.1, x.2, rfl, rfl, rfl⟩
/-- .. over a dict, locked, the dict read where it is locked already -/
theorem lcK2 {σ : L2.St} {H : Hp} {g : TG} {tt : TT} {te ta : TE} {vs : List Nat} {Q : VK} {l : List Asn} {p : Addr} {e : Nat} {kvs : List (Key × V)} (S : Sep l H) (hi : l[e]? = some (At p (.dK kvs))) (Pv : Obj → Addr → Nat → Hp → Prop) (h0 : ∀ od D H', Sep (At D (.lst []) :: l.set e (At p (.frz od (.dK kvs)))) H' → Pv od D 0 H') (hl : ∀ od D i H, Pv od D i H → H p = some (.frz od (.dK kvs)))
    (hs : ∀ od D i k v H, kvs[i]? = some (k, v) → Pv od D i H → LcT g tt ta vs σ (kV k) D (Pv od D (i + 1)) H) (hd : ∀ od D H, Pv od D kvs.length H → Q (.ref D) (upd H p (.dK kvs))) (hv : ∀ od H' R, Sep (l.set e (At p (.frz od (.dK kvs)))) H' → R (.ref p) H' → te σ H' R) : tLockE (tLc (iKeys te) g tt ta vs) σ H Q := by
  refine ⟨p, .dK kvs, S.at hi, trivial, fun od => ?_⟩
  have S' := S.upd hi (o' := .frz od (.dK kvs)) (fun _ z => nomatch z)
  show te σ _ _
  refine hv od _ _ S' ?_
  refine ⟨p, od, rfl, .inl ⟨kvs, upd_same, fun D hD => ⟨fun i m H => m = kvs.length - i ∧ i ≤ kvs.length ∧ Pv od D i H, ⟨kvs.length, by simp, Nat.zero_le _, h0 od D _ (S'.new hD)⟩, ?_⟩⟩⟩
  rintro i m H ⟨rfl, hi, q⟩
  have hq := hl od D i H q
  by_cases hlt : i < kvs.length
  · refine .inr ⟨⟨hq, hlt⟩, Pv od D (i + 1), fun H' p' => ⟨kvs.length - (i + 1), by omega, rfl, hlt, p'⟩, fun x H' y => ?_⟩
    obtain ⟨rfl, k, v, ek, rfl⟩ := y
    exact hs od D i k v _ ek q
  · have e : i = kvs.length := by omega
    subst e
    exact .inl ⟨⟨hq, Nat.le_refl _⟩, hq, hd od D H q⟩
/-- .. over e.items(), locked, e read where the dict is locked already -/
theorem lcI2 {σ : L2.St} {H : Hp} {g : TG} {tt : TT} {te ta : TE} {vs : List Nat} {Q : VK} {l : List Asn} {p : Addr} {e : Nat} {kvs : List (Key × V)} (S : Sep l H) (hi : l[e]? = some (At p (.dK kvs))) (Pv : Obj → Addr → Nat → Hp → Prop) (h0 : ∀ od D H', Sep (At D (.lst []) :: l.set e (At p (.frz od (.dK kvs)))) H' → Pv od D 0 H') (hl : ∀ od D i H, Pv od D i H → H p = some (.frz od (.dK kvs)))
    (hs : ∀ od D i k v T H H', kvs[i]? = some (k, v) → Pv od D i H → H T = none → H' = upd H T (.tup [kV k, v]) → LcT g tt ta vs σ (.ref T) D (Pv od D (i + 1)) H') (hd : ∀ od D H, Pv od D kvs.length H → Q (.ref D) (upd H p (.dK kvs))) (hv : ∀ od H' R, Sep (l.set e (At p (.frz od (.dK kvs)))) H' → R (.ref p) H' → te σ H' R) : tLockE (tLc (iItems te) g tt ta vs) σ H Q := by
  refine ⟨p, .dK kvs, S.at hi, trivial, fun od => ?_⟩
  have S' := S.upd hi (o' := .frz od (.dK kvs)) (fun _ z => nomatch z)
  show te σ _ _
  refine hv od _ _ S' ?_
  refine ⟨p, od, kvs, rfl, upd_same, fun D hD => ⟨fun i m H => m = kvs.length - i ∧ i ≤ kvs.length ∧ Pv od D i H, ⟨kvs.length, by simp, Nat.zero_le _, h0 od D _ (S'.new hD)⟩, ?_⟩⟩
  rintro i m H ⟨rfl, hi, q⟩
  have hq := hl od D i H q
  by_cases hlt : i < kvs.length
  · refine .inr ⟨⟨hq, hlt⟩, Pv od D (i + 1), fun H' p' => ⟨kvs.length - (i + 1), by omega, rfl, hlt, p'⟩, fun x H' y => ?_⟩
    obtain ⟨T, k, v, ek, rfl, hn, rfl⟩ := y
    exact hs od D i k v T H _ ek q hn rfl
  · have e : i = kvs.length := by omega
    subst e
    exact .inl ⟨⟨hq, Nat.le_refl _⟩, hq, hd od D H q⟩
theorem asc_nodup {ws : List Str} (h : Asc ws) : ws.Nodup := List.Pairwise.imp (fun {a b} (h : lt' a b) (e : a = b) => lt_irr b (e ▸ h)) h
theorem int_perm {xs ys : List Int} (h : xs.Perm ys) : xs.sum = ys.sum := by
  induction h with
  | nil => rfl
  | cons x _ ih => rw [List.sum_cons, List.sum_cons, ih]
  | swap x y l => rw [List.sum_cons, List.sum_cons, List.sum_cons, List.sum_cons]; omega
  | trans _ _ h1 h2 => rw [h1, h2]
theorem keys_nd {L : List (Str × Int)} (h : (keys L).Nodup) : L.Nodup := by
  induction L with
  | nil => exact List.nodup_nil
  | cons x L ih =>
    have h' := List.nodup_cons.1 h
    exact List.nodup_cons.2 ⟨fun z => h'.1 (List.mem_map_of_mem z), ih h'.2⟩
theorem perm_told {m L : List (Str × Int)} (hG : Good m) (hL : Told (num m) L) : m.Perm L := by
  refine (List.perm_ext_iff_of_nodup (keys_nd hG.1) (keys_nd (asc_nodup hL.1))).2 fun x => ?_
  constructor
  · intro hx
    have h1 := num_at hG.1 hx
    have h2 := (hG.2.1 x hx).1
    obtain ⟨y, hy, ey⟩ := List.mem_map.1 ((hL.2.1 x.1).2 (by rw [h1]; exact h2))
    have h3 := hL.2.2 y hy
    have ey' : y.1 = x.1 := ey
    rw [ey', h1] at h3
    have : y = x := Prod.ext ey' h3
    exact this ▸ hy
  · intro hx
    have h3 := hL.2.2 x hx
    have hk : x.1 ∈ keys m := Classical.byContradiction fun z => (hL.2.1 x.1).1 (List.mem_map_of_mem hx) (num_none z)
    have h4 := key_num hG.1 hk
    rw [← h3] at h4
    exact h4
theorem len_sub : ∀ {xs ys : List Str}, xs.Nodup → (∀ x ∈ xs, x ∈ ys) → xs.length ≤ ys.length
  | [], _, _, _ => Nat.zero_le _
  | x :: xs, ys, hn, h => by
    have hn' := List.nodup_cons.1 hn
    have hx := h x List.mem_cons_self
    have h1 := len_sub (ys := ys.erase x) hn'.2 fun y hy => (List.mem_erase_of_ne (fun (e : y = x) => hn'.1 (by rw [← e]; exact hy))).2 (h y (List.mem_cons_of_mem _ hy))
    rw [List.length_erase_of_mem hx] at h1
    have : 0 < ys.length := List.length_pos_of_mem hx
    rw [List.length_cons]; omega
theorem good_len {m mm : List (Str × Int)} (h : Good m) (e : num mm = num m) : m.length ≤ mm.length := by
  have h1 := len_sub (xs := keys m) (ys := keys mm) h.1 fun w hw => by
    obtain ⟨x, hx, ex⟩ := List.mem_map.1 hw
    refine Classical.byContradiction fun z => (h.2.1 x hx).1 ?_
    rw [← num_at h.1 hx, ← e]
    show num mm x.1 = 0
    rw [show x.1 = w from ex]
    exact num_none z
  unfold keys at h1
  rwa [List.length_map, List.length_map] at h1
theorem good_put {m : List (Str × Int)} {w : Str} {n : Int} (h : Good m) (hw : Wd w) (hn : n ≠ 0) (hz : m.length < 500) : Good (mput m w n) := by
  refine ⟨nodup_put h.1 w n, fun x hx => ?_, Nat.le_trans (len_put _ _ _) (by omega)⟩
  have h1 := num_at (nodup_put h.1 w n) hx
  rw [num_put] at h1
  by_cases e : x.1 = w
  · rw [if_pos e] at h1
    exact ⟨h1 ▸ hn, e ▸ hw⟩
  · rw [if_neg e] at h1
    rcases mem_put (List.mem_map_of_mem hx : x.1 ∈ keys (mput m w n)) with z | z
    · exact (e z).elim
    · obtain ⟨y, hy, ey⟩ := List.mem_map.1 z
      have h2 := num_at h.1 hy
      have h3 := h.2.1 y hy
      rw [show y.1 = x.1 from ey] at h2 h3
      rw [← h1, h2]
      exact h3
theorem erase_get {α : Type} {l : List α} {i j : Nat} {x : α} (h : i ≠ j) (e : l[j]? = some x) : (l.eraseIdx i)[if j < i then j else j - 1]? = some x := by
  rw [List.getElem?_eraseIdx]
  by_cases c : j < i
  · rw [if_pos c, if_pos c]; exact e
  · rw [if_neg c, if_neg (by omega), show j - 1 + 1 = j by omega]; exact e
theorem tri_snoc {g h : Str → Int} {ws : List Str} {w : Str} : tri g h (ws ++ [w]) = tri g h ws ++ [PyData.tuple [.str w, .int (g w), .int (h w)]] := by simp
/-! ### o * n, n * o -/
/-- what the lookups of * beside an int say -/
structure MulI (K : PySem.W.Frag) (C : Addr) : Prop where
  hr : ∃ rc : Option Value, PySem.W.findIn K (.ref C) (PySem.dunderR "mul") = some rc ∧ (rc = none ∨ ∃ g : Addr, rc = some (.ref g))
  h1 : ∃ fo, PySem.W.findIn K (.type "int") (PySem.dunder "mul") = some fo
  h2 : ∃ ro, PySem.W.findIn K (.type "int") (PySem.dunderR "mul") = some ro
  su : PySem.W.subIn K (.type "int") (.ref C) = some false
  us : PySem.W.subIn K (.ref C) (.type "int") = some false
section
variable {X : Cx} {CX : CXT} {n : Nat} {f C : Addr} {sp : Sp} {E : XK}
/-- o * n, n an int -/
def rMulI (C : Addr) (sp : Sp) (E : XK) : R2 := fun x y H Q => ∃ a dx fs i, x = V.ref a ∧ y = V.int i ∧ H a = some (.ins C dx fs) ∧ sp [x, y] H Q E
theorem op_mulI (mi : MulI X.K C) (hm : Meth X.K C (PySem.dunder Operator.Mult.info.2) f) (hs : PySem.W.selfFirst X.K C = true) (F : FnR X.prog X.w X.K X.mg X.base CX n f sp) (hr : Room n X.A) (hx : Passes CX X E) : OpR X (binaryOp .Mult) (rMulI C sp E) := by
  intro pins s σ H x y v u Q I rx ry h
  obtain ⟨a, dx, fs, i, rfl, rfl, ha, q⟩ := h
  cases (show v = Value.ref a from rx)
  obtain ⟨t, rfl⟩ := (show ∃ t, u = Value.int i t from ry)
  obtain ⟨ox, od, J⟩ := ins_inst I ha
  obtain ⟨m, hF⟩ := I.fr
  obtain ⟨rc, h3, h4⟩ := mi.hr
  obtain ⟨fo, h1⟩ := mi.h1
  obtain ⟨ro, h2⟩ := mi.h2
  refine PySem.W.ksp_binT (op := .Mult) (T := "int") hF I.ok.mod.kin J rfl hs hm.at_ hm.fn h3 h4 h1 h2 mi.su ?_
  refine wpAny_mono (wpAny_call (run_fnR (us := [.ref a, .int i t]) (vs := [.ref a, .int i]) F hr hx I (.cons rfl (.cons ⟨t, rfl⟩ .nil)) q)) (fun w s' z => ?_) fun _ _ x => x
  obtain ⟨z', H', I', rz, qz⟩ := z
  exact SlX.cmpback rz ⟨z', H', I', rz, qz⟩
theorem int_mul_ins (a : Int) (t : Tok) (l C dx : Addr) :
    Meets (Builtin.«int.__mul__» ⟨[.int a t, .ref l], []⟩) (fun _ R s => s.heap.get? l = some (PySem.W.instObj C dx) ∧ R (.ok (.ret Value.notImplemented)) s) :=
  .of_wp fun prog w A R s h => by obtain ⟨hp, g, d, tk, os⟩ := s; obtain ⟨hl, h⟩ := h; wp_walk using wpAny_loadPart' hl; exact ⟨_, rfl, h⟩
/-- n * o, n an int -/
def rMulR (C : Addr) (sp : Sp) (E : XK) : R2 := fun x y H Q => ∃ a dx fs i, x = V.int i ∧ y = V.ref a ∧ H a = some (.ins C dx fs) ∧ sp [y, x] H Q E
theorem op_mulR {f0 : Addr} (mi : MulI X.K C) (hm0 : Meth X.K C (PySem.dunder "mul") f0) (hm : Meth X.K C (PySem.dunderR "mul") f) (hs : PySem.W.selfFirst X.K C = true) (F : FnR X.prog X.w X.K X.mg X.base CX n f sp) (hr : Room n X.A) (hx : Passes CX X E) : OpR X (binaryOp .Mult) (rMulR C sp E) := by
  intro pins s σ H x y v u Q I rx ry h
  obtain ⟨a, dx, fs, i, rfl, rfl, ha, q⟩ := h
  cases (show u = Value.ref a from ry)
  obtain ⟨t, rfl⟩ := (show ∃ t, v = Value.int i t from rx)
  obtain ⟨mA, O, _⟩ := ins_get I.hok ha
  obtain ⟨od, J, _⟩ := O.look
  obtain ⟨m, hF⟩ := I.fr
  have XX := I.ok.mod.kin.keeps hF.keep
  obtain ⟨cd, rest, hcd, hmro⟩ := PySem.W.ksp_first hs
  have one := PySem.W.ksp_try (b := .int i t) XX J hm.at_ hm.fn (Q := EP X pins σ Q) (wpAny_mono (wpAny_call (run_fnR (us := [.ref a, .int i t]) (vs := [.ref a, .int i]) F hr hx I (.cons rfl (.cons ⟨t, rfl⟩ .nil)) q)) (fun w s' z => by
    obtain ⟨z', H', I', rz, qz⟩ := z
    exact SlX.cmpback rz ⟨z', H', I', rz, qz⟩) fun _ _ x => x)
  have L1 : PySem.W.Looks (model X.prog X.w) s.heap (typeOf (.int i t)) (.type "int") := PySem.W.Looks.of_pure rfl
  have L2 : PySem.W.Looks (model X.prog X.w) s.heap (typeOf (.ref a)) (.ref C) := J.type
  have L3 : PySem.W.Looks (model X.prog X.w) s.heap (fillsNumberSlot (.type "int") "mul") true := PySem.W.Looks.of_pure PySem.F.fills_int_mul
  have L4 : PySem.W.Looks (model X.prog X.w) s.heap (fillsNumberSlot (.ref C) "mul") true := PySem.W.fills_K XX hcd hmro hm0.at_
  have L5 : PySem.W.Looks (model X.prog X.w) s.heap (isSubtype (.ref C) (.type "int")) false := PySem.W.looks_subIn XX mi.us
  have hne : (Value.type "int" == Value.ref C) = false := Bool.eq_false_iff.mpr fun q => by cases beq_iff_eq.mp q
  show wpAny _ _ (binaryOp .Mult (.int i t) (.ref a)) _ _ _
  unfold binaryOp
  refine wpAny_holding (wpAny_bind ?_)
  show wpAny _ _ (binaryOp1 "mul" (.int i t) (.ref a)) _ _ _
  unfold binaryOp1
  refine wpAny_bind (L1.here (wpAny_bind (L2.here (wpAny_bind (L3.here ?_)))))
  simp only [hne, Bool.false_eq_true, if_false]
  refine wpAny_bind (L4.here ?_)
  simp only [Bool.and_self, if_true, Bool.true_and]
  refine wpAny_bind (L5.here ?_)
  simp only [Bool.false_eq_true, if_false, Bool.not_false, if_true, pure_bind]
  refine wpAny_bind ((show PySem.W.Looks (model X.prog X.w) s.heap (numberSlotInPython (.type "int") "mul") false from PySem.W.Looks.of_pure rfl).here ?_)
  simp only [Bool.false_eq_true, if_false]
  refine wpAny_bind (m := tryMethod (.int i t) _ (.ref a)) (wpAny_tryMethod_declines (T := "int") (show s.TypeIs (.int i t) "int" from rfl) PySem.F.slot_int_mul (call_meets PySem.F.slot_int_mul (show s.TypeIs (.int i t) "int" from rfl) PySem.F.entry_int_mul (PySem.F.args_int_mul_2 _ _) (int_mul_ins i t a C dx) ⟨J.at_, rfl, ?_⟩))
  refine wpAny_bind (m := tryMethod (.ref a) _ (.int i t)) (wpAny_mono one (fun r s' z => ?_) fun _ _ e => e)
  obtain ⟨w, rfl, ep⟩ := z
  exact wpAny_bind (wpAny_rule (wpAny_pure (wpAny_pure ep)))
end
section
variable {l : List Asn} {H : Hp} {Q : VK} {m : Int} {p C : Addr} {g : Str → Int} {sp : Sp} {E : XK} {e : Nat}
theorem mi_co (S : Sep l H) (hi : l[e]? = some (Co p C g)) (k : sp [.ref p, .int m] H Q E) : rMulI C sp E (.ref p) (.int m) H Q := by
  obtain ⟨dx, fs, h1⟩ := ins_co S hi
  exact ⟨p, dx, fs, m, rfl, rfl, h1, k⟩
theorem mr_co (S : Sep l H) (hi : l[e]? = some (Co p C g)) (k : sp [.ref p, .int m] H Q E) : rMulR C sp E (.int m) (.ref p) H Q := by
  obtain ⟨dx, fs, h1⟩ := ins_co S hi
  exact ⟨p, dx, fs, m, rfl, rfl, h1, k⟩
end
local macro_rules | `(tactic| walk_at "v1") => `(tactic| (first
  | ((with_reducible refine' mi_co (by assumption) ?hi ?_); (case hi => walk_at "has"))
  | ((with_reducible refine' mr_co (by assumption) ?hi ?_); (case hi => walk_at "has"))))

/-! dicts by their numbers alone; assertions found in a frame that is not listed -/
local macro_rules | `(tactic| walk_at "hasA") => `(tactic| (first | assumption | ((with_reducible refine' hasS ?h2); (case h2 => walk_at "hasA")) | fail "has"))
local macro_rules | `(tactic| walk_at "has") => `(tactic| (first | walk_at "hasR" | walk_at "hasA" | walk_at "hasD" | fail "has"))
/-- a dict of words and numbers, known by its numbers: at most n entries -/
def Md (d : Addr) (F : Str → Int) (n : Nat) : Asn := Exs fun m : List (Str × Int) => Pk [pure' ((keys m).Nodup ∧ m.length ≤ n ∧ num m = F), At d (.dK (mp m))]
section
variable {l : List Asn} {H : Hp} {d : Addr} {F : Str → Int} {n : Nat} {m : List (Str × Int)} {i : Nat}
theorem md_open (S : Sep (Md d F n :: l) H) : ∃ m, (keys m).Nodup ∧ m.length ≤ n ∧ num m = F ∧ Sep (At d (.dK (mp m)) :: l) H := by
  obtain ⟨m, S⟩ := S.ex
  obtain ⟨⟨h1, h2, h3⟩, S⟩ := (S.open').pure
  exact ⟨m, h1, h2, h3, S⟩
theorem md_close (h1 : (keys m).Nodup) (h2 : m.length ≤ n) (h3 : num m = F) (S : Sep (At d (.dK (mp m)) :: l) H) : Sep (Md d F n :: l) H :=
  Sep.ex' (x := m) (Sep.close' (l := [_, _]) (Sep.pure_in ⟨h1, h2, h3⟩ S))
theorem Sep.md (S : Sep l H) (e : l[i]? = some (Md d F n)) : ∃ m, (keys m).Nodup ∧ m.length ≤ n ∧ num m = F ∧ Sep (At d (.dK (mp m)) :: l.eraseIdx i) H := md_open (S.pick e)
theorem Sep.mdBack (e : l[i]? = some (Md d F n)) (h1 : (keys m).Nodup) (h2 : m.length ≤ n) (h3 : num m = F) (S : Sep (At d (.dK (mp m)) :: l.eraseIdx i) H) : Sep l H := Sep.backS e (md_close h1 h2 h3 S)
/-- what is read of it -/
theorem Sep.mdAt (S : Sep l H) (e : l[i]? = some (Md d F n)) : ∃ m, (keys m).Nodup ∧ m.length ≤ n ∧ num m = F ∧ H d = some (.dK (mp m)) := by
  obtain ⟨m, h1, h2, h3, S⟩ := S.md e
  exact ⟨m, h1, h2, h3, S.at (i := 0) rfl⟩
theorem Md.sz (S : Sep l H) (e : l[i]? = some (Md d F n)) : Sz F n := by
  obtain ⟨m, _, h2, h3, _⟩ := S.mdAt e
  exact Sz.of h3 h2
theorem e_isdM {R : Addr → Prop} (S : Sep l H) (hi : l[i]? = some (Md d F n)) (q : R d) : ∃ a, V.ref d = .ref a ∧ L2.IsD H a ∧ R a := by
  obtain ⟨m, _, _, _, h⟩ := S.mdAt hi
  exact ⟨d, rfl, .inl ⟨mp m, .inl h⟩, q⟩
theorem e_get0M {w : Str} {R : Option V → Prop} (S : Sep l H) (hi : l[i]? = some (Md d F n)) (q : ∀ o : Option V, o.getD (.int 0) = .int (F w) → R o) : ∃ o, DGet H d (.str w) o ∧ R o := by
  obtain ⟨m, _, _, h3, h⟩ := S.mdAt hi
  subst h3
  exact get0_of (.inl h) q
theorem ld_md {Q : VK} (S : Sep l H) (hi : l[i]? = some (Md d F n)) (k : ∀ (p : Addr) (ks : List Str) (H' : Hp), (∀ w, w ∉ ks → F w = 0) → ks.length ≤ n → Sep (At p (.lst (ks.map V.str)) :: l) H' → Q (.ref p) H') : gListD [.ref d] H Q := by
  obtain ⟨m, _, h2, h3, h⟩ := S.mdAt hi
  subst h3
  refine ⟨d, mp m, rfl, .inl h, fun p hp => ?_⟩
  rw [kv_mp]
  exact k p (keys m) _ (fun w hw => num_none hw) (by unfold keys; rw [List.length_map]; exact h2) (S.new hp)
theorem pk_md (h1 : (keys m).Nodup) (h2 : m.length ≤ n) (h3 : num m = F) (S : Sep (At d (.dK (mp m)) :: l) H) : Sep (Md d F n :: l) H := md_close h1 h2 h3 S
end
local macro_rules | `(tactic| walk_at "v1") => `(tactic| (first
  | ((with_reducible refine' ld_md (by assumption) ?hi ?_); (case hi => walk_at "has"); intro _ _ _ _ _ _)
  | ((with_reducible refine' e_isdM (by assumption) ?hi ?_); (case hi => walk_at "has"))
  | ((with_reducible refine' e_get0M (by assumption) ?hi ?_); (case hi => walk_at "has"); (refine fun o ho => ?_); rw [ho]; clear ho)))
/-- m has F of the words ws alone -/
def Mw (F : Str → Int) (ws : List Str) (m : List (Str × Int)) : Prop := (keys m).Nodup ∧ m.length ≤ ws.length ∧ ∀ w, num m w = if w ∈ ws then F w else 0
theorem Mw.nil {F : Str → Int} : Mw F [] [] := ⟨List.nodup_nil, Nat.le_refl _, fun w => by rw [if_neg (fun z => nomatch z)]; rfl⟩
theorem Mw.put {F : Str → Int} {ws : List Str} {m : List (Str × Int)} (h : Mw F ws m) (w : Str) : Mw F (ws ++ [w]) (mput m w (F w)) := by
  refine ⟨nodup_put h.1 _ _, Nat.le_trans (len_put _ _ _) (by rw [List.length_append]; exact Nat.succ_le_succ h.2.1), fun v => ?_⟩
  rw [num_put, h.2.2]
  by_cases e : v = w
  · rw [if_pos e, if_pos (List.mem_append_right _ (List.mem_singleton.2 e)), e]
  · rw [if_neg e]
    by_cases hv : v ∈ ws
    · rw [if_pos hv, if_pos (List.mem_append_left _ hv)]
    · rw [if_neg hv, if_neg fun z => (List.mem_append.1 z).elim hv fun z => e (List.mem_singleton.1 z)]
theorem Mw.all {F : Str → Int} {ws : List Str} {m : List (Str × Int)} (h : Mw F ws m) (k : ∀ w, w ∉ ws → F w = 0) : num m = F := funext fun w => by
  rw [h.2.2]
  by_cases hw : w ∈ ws
  · rw [if_pos hw]
  · rw [if_neg hw, k w hw]
theorem psum_bound {ps : List (Str × Int)} (h : Gp ps) (w : Str) : (psum ps w).natAbs ≤ ps.length * 10 ^ 30 := by
  induction ps with
  | nil => exact Nat.zero_le _
  | cons x ps ih =>
    have ih := ih fun y hy => h y (List.mem_cons_of_mem _ hy)
    have hx := (h x List.mem_cons_self).2
    show ((if x.1 = w then x.2 else 0) + psum ps w).natAbs ≤ (ps.length + 1) * 10 ^ 30
    have h1 : (if x.1 = w then x.2 else 0).natAbs ≤ 10 ^ 30 := by
      split
      · omega
      · exact Nat.zero_le _
    have h2 := Int.natAbs_add_le (if x.1 = w then x.2 else 0) (psum ps w)
    rw [Nat.add_mul, Nat.one_mul]
    omega
theorem psum_big {ps : List (Str × Int)} (h : Gp ps) (hz : ps.length ≤ 1000) (w : Str) : (psum ps w).natAbs < 2 ^ 900 := by
  have h1 := psum_bound h w
  have h2 : ps.length * 10 ^ 30 ≤ 1000 * 10 ^ 30 := Nat.mul_le_mul_right _ hz
  have h3 : 1000 * 10 ^ 30 < 2 ^ 900 := by decide +kernel
  omega
theorem SepF.inv {A : Asn} {l : List Asn} {g : Addr → Prop} {H : Hp} (S : SepF (A :: l) g H) : ∃ f g', A.h f H ∧ SepF l g' H ∧ ∀ a, g a ↔ (f a ∨ g' a) := by
  cases S with
  | cons h S d => exact ⟨_, _, h, S, fun _ => Iff.rfl⟩
theorem co_ne_md {l : List Asn} {H : Hp} {i j : Nat} {p C d : Addr} {g F : Str → Int} {n : Nat} (S : Sep l H) (e : l[i]? = some (Co p C g)) (e2 : l[j]? = some (Md d F n)) : i ≠ j := by
  intro h
  subst h
  have e3 := Option.some.inj (e.symm.trans e2)
  obtain ⟨f, hf⟩ := S.get e
  have hf2 : (Md d F n).h f H := e3 ▸ hf
  obtain ⟨x, hs⟩ := hf
  obtain ⟨f1, g1, _, hs, k1⟩ := SepF.inv (show SepF _ f H from hs)
  obtain ⟨f2, g2, ho, _, k2⟩ := hs.inv
  obtain ⟨dx, ho⟩ := ho
  obtain ⟨f3, g3, hp, _, k3⟩ := SepF.inv (show SepF _ f2 H from ho)
  have hp' : H p = some _ ∧ ∀ a, f3 a ↔ a = p := hp
  have fp : f p := (k1 p).2 (.inr ((k2 p).2 (.inl ((k3 p).2 (.inl ((hp'.2 p).2 rfl))))))
  obtain ⟨m, hm⟩ := hf2
  obtain ⟨f4, g4, hpu, hm, k4⟩ := SepF.inv (show SepF _ f H from hm)
  obtain ⟨f5, g5, hd, hm, k5⟩ := hm.inv
  have hpu' : _ ∧ ∀ a, ¬ f4 a := hpu
  have hd' : H d = some (.dK (mp m)) ∧ ∀ a, f5 a ↔ a = d := hd
  rcases (k4 p).1 fp with z | z
  · exact hpu'.2 p z
  · rcases (k5 p).1 z with z | z
    · have e5 := (hd'.2 p).1 z
      rw [← e5, hp'.1] at hd'
      exact nomatch hd'.1
    · cases hm
      exact z
/-! ### dict(d), C.m(..), lists of texts compared -/
def gDictD (xs : List V) (H : Hp) (Q : VK) : Prop := ∃ (a : Addr) (kvs : List (Key × V)), xs = [.ref a] ∧ Rd H a (.dK kvs) ∧ ∀ p, H p = Option.none → Q (.ref p) (upd H p (.dK kvs))
theorem call_gDictD {X : Cx} : CallR X (.type "dict") gDictD := call_dictD
theorem dd_mp {l : List Asn} {H : Hp} {d : Addr} {m : List (Str × Int)} {e : Nat} {Q : VK} (S : Sep l H) (hi : l[e]? = some (At d (.dK (mp m)))) (k : ∀ p H', Sep (At p (.dK (mp m)) :: l) H' → Q (.ref p) H') : gDictD [.ref d] H Q :=
  ⟨d, mp m, rfl, .inl (S.at hi), fun p hp => k p _ (S.new hp)⟩
local macro_rules | `(tactic| walk_at "v1") => `(tactic| ((with_reducible refine' dd_mp (by assumption) ?hi ?_); (case hi => walk_at "has"); intro _ _ _))
theorem r_cmethC {σ : L2.St} {H : Hp} {C : Addr} {sp : Sp} {E : XK} {t : TA} {Q : VK} (q : t σ H fun vs H2 => sp (.ref C :: vs) H2 Q E) : ClX.tCMeth C sp E (tC (.ref C)) t σ H Q := ⟨rfl, q⟩
local macro_rules | `(tactic| walk_at "v1") => `(tactic| (with_reducible refine r_cmethC ?_))
theorem ne_lss {l : List Asn} {H : Hp} {p p2 : Addr} {K : PySem.W.Frag} {Q : VK} {e e2 : Nat} {ws us : List Str} (S : Sep l H) (hi : l[e]? = some (At p (.lst (ws.map V.str)))) (hj : l[e2]? = some (At p2 (.lst (us.map V.str)))) (h1 : ∀ w ∈ ws, Wd w) (h2 : ∀ w ∈ us, Wd w) (q : Q (.bl (!decide (ws = us))) H) : gNe K (.ref p) (.ref p2) H Q :=
  .inr ⟨.list (dStrs ws), .list (dStrs us), .lst (SqL.of (S.at hi)) (dp_strs ws), .lst (SqL.of (S.at hj)) (dp_strs us), shaped_lst (flat_dstrs h1), shaped_lst (flat_dstrs h2), by rw [PyData.eqv, eqv_dstrs]; exact q⟩
theorem cut_lastV (xs : List V) (v : V) : cutV (xs ++ [v]) none (some (-1)) = xs := by
  unfold cutV
  have e1 : HT.sIx (xs.length + 1) (xs.length + 1) (some (-1)) = xs.length := by
    unfold HT.sIx
    simp
    try omega
  have e0 : HT.sIx (xs.length + 1) 0 none = 0 := rfl
  rw [show (xs ++ [v]).length = xs.length + 1 by simp, e1, e0]
  simp
/-! ### the truth of a bool -/
theorem r_tr {K : PySem.W.Frag} {ta : TE} {σ : L2.St} {H : Hp} {Q : Bool → Hp → Prop} (q : ta σ H fun x H' => ∃ k, TruV K x H' k ∧ Q k H') : tTr K ta σ H Q := q
theorem tr_bl {K : PySem.W.Frag} {H : Hp} {b : Bool} {R : Bool → Prop} (q : R b) : ∃ k, TruV K (.bl b) H k ∧ R k := ⟨b, rfl, q⟩
local macro_rules | `(tactic| walk_at "v1") => `(tactic| (first
  | with_reducible refine r_tr ?_
  | with_reducible refine tr_bl ?_))
/-! ### rows -/
theorem SepF.perm {l l' : List Asn} {H : Hp} (h : l.Perm l') : ∀ {g : Addr → Prop}, SepF l g H → SepF l' g H := by
  induction h with
  | nil => exact fun S => S
  | cons A _ ih =>
    intro g S
    cases S with
    | cons h S d => exact .cons h (ih S) d
  | swap A B l =>
    intro g S
    exact S.pick (i := 1) rfl
  | trans _ _ h1 h2 => exact fun S => h2 (h1 S)
theorem Sep.perm {l l' : List Asn} {H : Hp} (S : Sep l H) (h : l.Perm l') : Sep l' H := S.imp fun _ q => q.perm h
/-- a row: new counts with the numbers F, beside a dict -/
structure Rx where
  q : Addr
  d : Addr
  F : Str → Int
def Rw (C : Addr) (r : Rx) : Asn := Exs fun p : Addr => Pk [Tp r.q [.ref p, .ref r.d], Co p C r.F]
theorem rw_close {C p : Addr} {r : Rx} {l : List Asn} {H : Hp} (S : Sep (Tp r.q [.ref p, .ref r.d] :: Co p C r.F :: l) H) : Sep (Rw C r :: l) H := Sep.ex' (x := p) (Sep.close' (l := [_, _]) S)
theorem rw_open {C : Addr} {r : Rx} {l : List Asn} {H : Hp} (S : Sep (Rw C r :: l) H) : ∃ p, Sep (Tp r.q [.ref p, .ref r.d] :: Co p C r.F :: l) H := by
  obtain ⟨p, S⟩ := S.ex
  exact ⟨p, S.open'⟩
/-- the rows rs in a list at L; their dicts are in fr -/
def Rows (C L : Addr) (rs : List Rx) (fr : List Asn) (H : Hp) : Prop := rs.length ≤ 60 ∧ (∀ r ∈ rs, ∃ (t n : Nat), n < 64 ∧ fr[t]? = some (Md r.d r.F n)) ∧ Sep (At L (.lst (rs.map fun r => V.ref r.q)) :: (rs.map (Rw C) ++ fr)) H
theorem Rows.add {C L : Addr} {rs news : List Rx} {ms fr : List Asn} {H : Hp} (hz : (rs ++ news).length ≤ 60) (h0 : ∀ r ∈ rs, ∃ (t n : Nat), n < 64 ∧ fr[t]? = some (Md r.d r.F n)) (h1 : ∀ r ∈ news, ∃ (t n : Nat), n < 64 ∧ (ms ++ fr)[t]? = some (Md r.d r.F n))
    (S : Sep (At L (.lst (rs.map (fun r => V.ref r.q) ++ news.map fun r => V.ref r.q)) :: (news.map (Rw C) ++ (ms ++ (rs.map (Rw C) ++ fr)))) H) : Rows C L (rs ++ news) (ms ++ fr) H := by
  refine ⟨hz, fun r hr => ?_, ?_⟩
  · rcases List.mem_append.1 hr with hr | hr
    · obtain ⟨t, n, hn, e⟩ := h0 r hr
      exact ⟨ms.length + t, n, hn, by rw [List.getElem?_append_right (by omega), Nat.add_sub_cancel_left]; exact e⟩
    · exact h1 r hr
  · rw [← List.map_append] at S
    refine S.perm (List.Perm.cons _ ?_)
    rw [List.map_append, List.append_assoc]
    have e1 : (List.map (Rw C) news ++ (ms ++ (List.map (Rw C) rs ++ fr))).Perm (List.map (Rw C) news ++ (List.map (Rw C) rs ++ (ms ++ fr))) :=
      List.Perm.append_left _ (by rw [← List.append_assoc, ← List.append_assoc]; exact List.Perm.append_right _ List.perm_append_comm)
    refine e1.trans ?_
    rw [← List.append_assoc, ← List.append_assoc (List.map (Rw C) rs)]
    exact List.Perm.append_right _ List.perm_append_comm
theorem app_get {l fr : List Asn} {i : Nat} {A : Asn} (h : fr[i]? = some A) : (l ++ fr)[l.length + i]? = some A := by
  rw [List.getElem?_append_right (by omega), Nat.add_sub_cancel_left]; exact h
theorem packs {C : Addr} {H : Hp} : ∀ (ps : List (Addr × Rx)) (X : Asn) (l : List Asn), Sep ((ps.flatMap fun x => [Tp x.2.q [.ref x.1, .ref x.2.d], Co x.1 C x.2.F]) ++ X :: l) H → Sep (X :: ((ps.map fun x => Rw C x.2) ++ l)) H
  | [], _, _, S => S
  | x :: ps, X, l, S => by
    have S1 : Sep (Rw C x.2 :: ((ps.flatMap fun x => [Tp x.2.q [.ref x.1, .ref x.2.d], Co x.1 C x.2.F]) ++ X :: l)) H := rw_close S
    have S2 : Sep ((ps.flatMap fun x => [Tp x.2.q [.ref x.1, .ref x.2.d], Co x.1 C x.2.F]) ++ X :: (Rw C x.2 :: l)) H := S1.perm (by
      refine List.perm_middle.symm.trans (List.Perm.append_left _ (List.Perm.swap _ _ _))
      )
    have S3 := packs ps X (Rw C x.2 :: l) S2
    refine S3.perm (List.Perm.cons _ ?_)
    exact List.perm_middle
theorem Sep.dropAt {l : List Asn} {H : Hp} (S : Sep l H) (i : Nat) : Sep (l.eraseIdx i) H := by
  by_cases h : i < l.length
  · exact (S.pick (List.getElem?_eq_getElem h)).tail
  · rw [List.eraseIdx_of_length_le (by omega)]; exact S
def drops : List Nat → List Asn → List Asn
  | [], l => l
  | i :: is, l => drops is (l.eraseIdx i)
theorem Sep.drops {H : Hp} : ∀ (is : List Nat) {l : List Asn}, Sep l H → Sep (Y.drops is l) H
  | [], _, S => S
  | i :: is, _, S => Sep.drops is (S.dropAt i)
/-! ### rows with a dict each -/
def Rv (C : Addr) (r : Rx) : Asn := Exs fun p : Addr => Pk [Tp r.q [.ref p, .ref r.d], Co p C r.F, Md r.d r.F 30]
theorem rv_close {C p : Addr} {r : Rx} {l : List Asn} {H : Hp} (S : Sep (Tp r.q [.ref p, .ref r.d] :: Co p C r.F :: Md r.d r.F 30 :: l) H) : Sep (Rv C r :: l) H := Sep.ex' (x := p) (Sep.close' (l := [_, _, _]) S)
theorem rv_open {C : Addr} {r : Rx} {l : List Asn} {H : Hp} (S : Sep (Rv C r :: l) H) : ∃ p, Sep (Tp r.q [.ref p, .ref r.d] :: Co p C r.F :: Md r.d r.F 30 :: l) H := by
  obtain ⟨p, S⟩ := S.ex
  exact ⟨p, S.open'⟩
theorem packv {C : Addr} {H : Hp} : ∀ (ps : List (Addr × Rx)) (X : Asn) (l : List Asn), Sep ((ps.flatMap fun x => [Tp x.2.q [.ref x.1, .ref x.2.d], Co x.1 C x.2.F, Md x.2.d x.2.F 30]) ++ X :: l) H → Sep (X :: ((ps.map fun x => Rv C x.2) ++ l)) H
  | [], _, _, S => S
  | x :: ps, X, l, S => by
    have S1 : Sep (Rv C x.2 :: ((ps.flatMap fun x => [Tp x.2.q [.ref x.1, .ref x.2.d], Co x.1 C x.2.F, Md x.2.d x.2.F 30]) ++ X :: l)) H := rv_close S
    have S2 : Sep ((ps.flatMap fun x => [Tp x.2.q [.ref x.1, .ref x.2.d], Co x.1 C x.2.F, Md x.2.d x.2.F 30]) ++ X :: (Rv C x.2 :: l)) H := S1.perm (List.perm_middle.symm.trans (List.Perm.append_left _ (List.Perm.swap _ _ _)))
    exact (packv ps X (Rv C x.2 :: l) S2).perm (List.Perm.cons _ List.perm_middle)
/-- the rows rs in a list at L -/
def Rovs (C L : Addr) (rs : List Rx) (fr : List Asn) (H : Hp) : Prop := Sep (At L (.lst (rs.map fun r => V.ref r.q)) :: (rs.map (Rv C) ++ fr)) H
theorem Rovs.add {C L : Addr} {rs news : List Rx} {fr : List Asn} {H : Hp} (S : Sep (At L (.lst (rs.map (fun r => V.ref r.q) ++ news.map fun r => V.ref r.q)) :: (news.map (Rv C) ++ (rs.map (Rv C) ++ fr))) H) : Rovs C L (rs ++ news) fr H := by
  unfold Rovs
  rw [← List.map_append] at S
  refine S.perm (List.Perm.cons _ ?_)
  rw [List.map_append, ← List.append_assoc]
  exact List.Perm.append_right _ List.perm_append_comm

/-! dicts by their numbers, their keys among given words -/
def Mq (d : Addr) (F : Str → Int) (ws : List Str) : Asn := Exs fun m : List (Str × Int) => Pk [pure' ((keys m).Nodup ∧ (∀ w ∈ keys m, w ∈ ws) ∧ num m = F), At d (.dK (mp m))]
/-- all numbers are of these words -/
def On (F : Str → Int) (ws : List Str) : Prop := ∀ w, w ∉ ws → F w = 0
theorem On.sz {F : Str → Int} {ws : List Str} {n : Nat} (h : On F ws) (k : ws.length ≤ n) : Sz F n := ⟨ws, k, fun w z => Classical.byContradiction fun y => z (h w y)⟩
theorem On.map {F G : Str → Int} {ws : List Str} (h : On F ws) (k : ∀ w, F w = 0 → G w = 0) : On G ws := fun w z => k w (h w z)
theorem On.two {F G J : Str → Int} {ws : List Str} (h : On F ws) (h2 : On G ws) (k : ∀ w, F w = 0 → G w = 0 → J w = 0) : On J ws := fun w z => k w (h w z) (h2 w z)
theorem On.put {F : Str → Int} {ws : List Str} (h : On F ws) (v : Str) (x : Int) : On (fun w => if w = v then x else F w) (v :: ws) := fun w z => by
  show (if w = v then x else F w) = 0
  rw [if_neg (fun e => z (by rw [e]; exact List.mem_cons_self))]
  exact h w fun y => z (List.mem_cons_of_mem _ y)
theorem On.sub {F : Str → Int} {ws us : List Str} (h : On F ws) (k : ∀ w ∈ ws, w ∈ us) : On F us := fun w z => h w fun y => z (k w y)
theorem on_psum (ps : List (Str × Int)) : On (psum ps) (keys ps) := fun w h => by
  induction ps with
  | nil => rfl
  | cons x ps ih =>
    show (if x.1 = w then x.2 else 0) + psum ps w = 0
    rw [if_neg (fun e => h (by rw [← e]; exact List.mem_cons_self)), ih fun z => h (List.mem_cons_of_mem _ z)]; rfl
section
variable {l : List Asn} {H : Hp} {d : Addr} {F : Str → Int} {ws us : List Str} {m : List (Str × Int)} {i : Nat} {n : Nat}
theorem mq_open (S : Sep (Mq d F ws :: l) H) : ∃ m, (keys m).Nodup ∧ (∀ w ∈ keys m, w ∈ ws) ∧ num m = F ∧ Sep (At d (.dK (mp m)) :: l) H := by
  obtain ⟨m, S⟩ := S.ex
  obtain ⟨⟨h1, h2, h3⟩, S⟩ := (S.open').pure
  exact ⟨m, h1, h2, h3, S⟩
theorem mq_close (h1 : (keys m).Nodup) (h2 : ∀ w ∈ keys m, w ∈ ws) (h3 : num m = F) (S : Sep (At d (.dK (mp m)) :: l) H) : Sep (Mq d F ws :: l) H :=
  Sep.ex' (x := m) (Sep.close' (l := [_, _]) (Sep.pure_in ⟨h1, h2, h3⟩ S))
theorem Sep.mq (S : Sep l H) (e : l[i]? = some (Mq d F ws)) : ∃ m, (keys m).Nodup ∧ (∀ w ∈ keys m, w ∈ ws) ∧ num m = F ∧ Sep (At d (.dK (mp m)) :: l.eraseIdx i) H := mq_open (S.pick e)
theorem Sep.mqBack (e : l[i]? = some (Mq d F ws)) (h1 : (keys m).Nodup) (h2 : ∀ w ∈ keys m, w ∈ ws) (h3 : num m = F) (S : Sep (At d (.dK (mp m)) :: l.eraseIdx i) H) : Sep l H := Sep.backS e (mq_close h1 h2 h3 S)
theorem Sep.mqAt (S : Sep l H) (e : l[i]? = some (Mq d F ws)) : ∃ m, (keys m).Nodup ∧ (∀ w ∈ keys m, w ∈ ws) ∧ num m = F ∧ H d = some (.dK (mp m)) := by
  obtain ⟨m, h1, h2, h3, S⟩ := S.mq e
  exact ⟨m, h1, h2, h3, S.at (i := 0) rfl⟩
theorem keys_le (h1 : (keys m).Nodup) (h2 : ∀ w ∈ keys m, w ∈ ws) : m.length ≤ ws.length := by
  have := len_sub h1 h2
  unfold keys at this
  rwa [List.length_map] at this
theorem Mq.on (S : Sep l H) (e : l[i]? = some (Mq d F ws)) : On F ws := by
  obtain ⟨m, _, h2, h3, _⟩ := S.mqAt e
  subst h3
  exact fun w hw => num_none fun z => hw (h2 w z)
theorem mq_sub (k : ∀ w ∈ ws, w ∈ us) (S : Sep (Mq d F ws :: l) H) : Sep (Mq d F us :: l) H := by
  obtain ⟨m, h1, h2, h3, S⟩ := mq_open S
  exact mq_close h1 (fun w hw => k w (h2 w hw)) h3 S
theorem e_isdQ {R : Addr → Prop} (S : Sep l H) (hi : l[i]? = some (Mq d F ws)) (q : R d) : ∃ a, V.ref d = .ref a ∧ L2.IsD H a ∧ R a := by
  obtain ⟨m, _, _, _, h⟩ := S.mqAt hi
  exact ⟨d, rfl, .inl ⟨mp m, .inl h⟩, q⟩
theorem e_get0Q {w : Str} {R : Option V → Prop} (S : Sep l H) (hi : l[i]? = some (Mq d F ws)) (q : ∀ o : Option V, o.getD (.int 0) = .int (F w) → R o) : ∃ o, DGet H d (.str w) o ∧ R o := by
  obtain ⟨m, _, _, h3, h⟩ := S.mqAt hi
  subst h3
  exact get0_of (.inl h) q
theorem ld_mq {Q : VK} (S : Sep l H) (hi : l[i]? = some (Mq d F ws)) (k : ∀ (p : Addr) (ks : List Str) (H' : Hp), On F ks → (∀ w ∈ ks, w ∈ ws) → ks.Nodup → Sep (At p (.lst (ks.map V.str)) :: l) H' → Q (.ref p) H') : gListD [.ref d] H Q := by
  obtain ⟨m, h1, h2, h3, h⟩ := S.mqAt hi
  subst h3
  refine ⟨d, mp m, rfl, .inl h, fun p hp => ?_⟩
  rw [kv_mp]
  exact k p (keys m) _ (fun w hw => num_none hw) h2 h1 (S.new hp)
theorem c_lenQ {K : PySem.W.Frag} {Q : VK} (S : Sep l H) (hi : l[i]? = some (Mq d F ws)) (k : ∀ n : Nat, n ≤ ws.length → Q (.int (n : Nat)) H) : gLen K [.ref d] H Q := by
  obtain ⟨m, h1, h2, h3, h⟩ := S.mqAt hi
  refine .inr ⟨d, mp m, rfl, h, ?_⟩
  have := k m.length (keys_le h1 h2)
  rwa [← List.length_map (f := fun x : Str × Int => ((Sum.inr x.1 : Key), V.int x.2))] at this
end
local macro_rules | `(tactic| walk_at "v1") => `(tactic| (first
  | ((with_reducible refine' ld_mq (by assumption) ?hi ?_); (case hi => walk_at "has"); intro _ _ _ _ _ _ _)
  | ((with_reducible refine' e_isdQ (by assumption) ?hi ?_); (case hi => walk_at "has"))
  | ((with_reducible refine' e_get0Q (by assumption) ?hi ?_); (case hi => walk_at "has"); (refine fun o ho => ?_); rw [ho]; clear ho)))
/-- words taken from both, put one by one -/
theorem keys_put_in {m : List (Str × Int)} {w : Str} {n : Int} {ws : List Str} (h : ∀ v ∈ keys m, v ∈ ws) (hw : w ∈ ws) : ∀ v ∈ keys (mput m w n), v ∈ ws := fun v hv => (mem_put hv).elim (fun e => e ▸ hw) (h v)
/-! a, b = x, y -/
section
variable {σ : L2.St} {H : Hp} {ta : TA} {i j : Nat} {nx bk ct : L2.St → Hp → Prop} {rt : VK} {a b c : V} {R : V → V → Prop}
theorem r_par (q : ta σ H fun vs H1 => ∃ v w, vs = [v, w] ∧ nx ((σ.set i (some v)).set j (some w)) H1) : tPar i j ta ⟨nx, rt, bk, ct⟩ σ H := q
theorem e_par (q : R a b) : ∃ v w, [a, b] = [v, w] ∧ R v w := ⟨a, b, rfl, q⟩
end
local macro_rules | `(tactic| walk_at "v1") => `(tactic| (first
  | with_reducible refine r_par ?_
  | with_reducible refine r_aug rfl ?_
  | with_reducible refine e_par ?_))
/-! ### places by a number, one assertion for another, all of them weaker -/
theorem ixN_in {k : Nat} {n : Int} (h0 : 0 ≤ n) (h1 : n < k) : ixN k n = some n.toNat := by
  unfold ixN
  rw [if_pos h0, if_pos h1]
inductive Weak (H : Hp) : List Asn → List Asn → Prop
  | nil : Weak H [] []
  | cons {A B : Asn} {l l' : List Asn} : (∀ f, A.h f H → B.h f H) → Weak H l l' → Weak H (A :: l) (B :: l')
section
variable {l l' : List Asn} {H : Hp} {A B : Asn} {i : Nat} {p : Addr} {xs : List V} {v : V} {n : Int}
theorem w_lstI {e : Nat} {R : Hp → Prop} (S : Sep l H) (hi : l[e]? = some (At p (.lst xs))) (h0 : 0 ≤ n) (h1 : n < xs.length) (k : ∀ H', Sep (l.set e (At p (.lst (xs.set n.toNat v)))) H' → R H') : rSetL (.ref p) (.int n) v H R :=
  w_lst S hi (ixN_in h0 h1) k
theorem Sep.swapIn (S : Sep (B :: l) H) (e : l[i]? = some A) : Sep (l.set i B) H := Sep.back e (S.pick (i := i + 1) (l := B :: l) e).tail
theorem SepF.imp (h : Weak H l l') : ∀ {g : Addr → Prop}, SepF l g H → SepF l' g H := by
  induction h with
  | nil => exact fun S => S
  | cons h _ ih =>
    intro g S
    cases S with
    | cons a S d => exact .cons (h _ a) (ih S) d
theorem Sep.imp (h : Weak H l l') (S : Sep l H) : Sep l' H := by
  obtain ⟨g, S⟩ := S
  exact ⟨g, S.imp h⟩
theorem all2_refl : ∀ (l : List Asn), Weak H l l
  | [] => .nil
  | _ :: l => .cons (fun _ h => h) (all2_refl l)
theorem all2_app {a b c d : List Asn} (h1 : Weak H a b) (h2 : Weak H c d) : Weak H (a ++ c) (b ++ d) := by
  induction h1 with
  | nil => exact h2
  | cons h _ ih => exact .cons h ih
theorem all2_map {α : Type} {f g : α → Asn} (h : ∀ x u, (f x).h u H → (g x).h u H) : ∀ (xs : List α), Weak H (xs.map f) (xs.map g)
  | [] => .nil
  | x :: xs => .cons (h x) (all2_map h xs)
theorem mq_weak {d : Addr} {F : Str → Int} {ws us : List Str} (k : ∀ w ∈ ws, w ∈ us) {f : Addr → Prop} (h : (Mq d F ws).h f H) : (Mq d F us).h f H := by
  obtain ⟨m, h⟩ := h
  have h : SepF [pure' ((keys m).Nodup ∧ (∀ w ∈ keys m, w ∈ ws) ∧ num m = F), At d (.dK (mp m))] f H := h
  cases h with
  | @cons _ _ f1 g1 _ a S dd => exact ⟨m, SepF.cons (A := pure' ((keys m).Nodup ∧ (∀ w ∈ keys m, w ∈ us) ∧ num m = F)) ⟨⟨a.1.1, fun w hw => k w (a.1.2.1 w hw), a.1.2.2⟩, a.2⟩ S dd⟩
theorem e_putQ {d : Addr} {F : Str → Int} {ws : List Str} {w : Str} {R : Hp → Prop} (S : Sep l H) (hi : l[i]? = some (Mq d F ws)) (hw : w ∈ ws) (hz : ws.length ≤ 1000) (k : ∀ H', Sep (l.set i (Mq d (fun v => if v = w then n else F v) ws)) H' → R H') : ∃ a H4, V.ref d = .ref a ∧ DPut H a (.str w) (.int n) H4 ∧ R H4 := by
  obtain ⟨m, h1, h2, h3, S1⟩ := S.mq hi
  subst h3
  have h4 := keys_le h1 h2
  refine e_putI S1 (e := 0) rfl h1 (by omega) fun H' S' => k H' (Sep.back hi (mq_close (nodup_put h1 w n) (keys_put_in h2 hw) (funext fun v => num_put m w n v) S'))
theorem dd_mq {d : Addr} {F : Str → Int} {ws : List Str} {Q : VK} (S : Sep l H) (hi : l[i]? = some (Mq d F ws)) (k : ∀ p H', Sep (Mq p F ws :: l) H' → Q (.ref p) H') : gDictD [.ref d] H Q := by
  obtain ⟨m, h1, h2, h3, h⟩ := S.mqAt hi
  exact ⟨d, mp m, rfl, .inl h, fun p hp => k p _ (mq_close h1 h2 h3 (S.new hp))⟩
end

/-! own == and != beside a value of another class; repr by an own __repr__ -/
section
open PyProof.Rows
section
variable {X : Cx} {CX : CXT} {n : Nat} {f C : Addr} {sp : Sp} {E : XK} {K : PySem.W.Frag}
def rCmpX (K : PySem.W.Frag) (C : Addr) (sp : Sp) (E : XK) : R2 := fun x y H Q => ∃ a dx fs t, x = V.ref a ∧ H a = some (.ins C dx fs) ∧ TyX K H y t ∧ PySem.W.notFirst K C t = true ∧ sp [x, y] H Q E
theorem op_ownCmpX {op : CmpOp} (hK : X.K = K) (hop : ∀ a b, compareOp op a b = richCompare op a b) (hm : Meth X.K C (cmpInfo op).2.1 f) (F : FnR X.prog X.w X.K X.mg X.base CX n f sp) (hr : Room n X.A) (hx : Passes CX X E) : OpR X (compareOp op) (rCmpX K C sp E) := by
  intro pins s σ H x y v u Q I rx ry h
  subst hK
  obtain ⟨a, dx, fs, t, rfl, ha, ht, hs, q⟩ := h
  cases (show v = Value.ref a from rx)
  obtain ⟨ox, od, J⟩ := ins_inst I ha
  obtain ⟨m, hF⟩ := I.fr
  obtain ⟨P, KX, hP, _⟩ := kit_of I ry ht
  rw [hop]
  refine PySem.W.cmp_K (op := op) (tb := t) hr.units0 hF I.ok.mod.kin J (KX.ty _ _ (I.ok.mod.kin.keeps hF.keep) hP) hs hm.at_ hm.fn ?_
  refine wpAny_mono (wpAny_call (run_fnR (us := [.ref a, u]) (vs := [.ref a, y]) F hr hx I (.cons rfl (.cons ry .nil)) q)) (fun w s' z => ?_) fun _ _ x => x
  obtain ⟨z', H', I', rz, qz⟩ := z
  exact SlX.cmpback rz ⟨z', H', I', rz, qz⟩
def rNeX (K : PySem.W.Frag) (C : Addr) (sp : Sp) (E : XK) : R2 := fun x y H Q => ∃ a dx fs t, x = V.ref a ∧ H a = some (.ins C dx fs) ∧ TyX K H y t ∧ PySem.W.notFirst K C t = true ∧ sp [x, y] H (fun z H' => ∃ c : Bool, z = .bl c ∧ Q (.bl (!c)) H') E
theorem op_ownNeX (hK : X.K = K) (hne : PySem.W.findIn X.K (.ref C) "__ne__" = some (some (.builtin "object.__ne__"))) (hob : PySem.W.mroIn X.K C (.type "object") = some true) (hm : Meth X.K C (Str.ofString "__eq__") f) (F : FnR X.prog X.w X.K X.mg X.base CX n f sp) (hr : Room (n + 1) X.A) (hu : X.A.units + 64 < cLine) (hx : Passes CX X E) :
    OpR X (compareOp .NotEq) (rNeX K C sp E) := by
  intro pins s σ H x y v u Q I rx ry h
  subst hK
  obtain ⟨a, dx, fs, t, rfl, ha, ht, hs, q⟩ := h
  cases (show v = Value.ref a from rx)
  obtain ⟨ox, od, J⟩ := ins_inst I ha
  obtain ⟨m, hF⟩ := I.fr
  obtain ⟨P, KX, hP, _⟩ := kit_of I ry ht
  have XK := I.ok.mod.kin.keeps hF.keep
  have hb := KX.ty (model X.prog X.w) _ XK hP
  have entry : wpAny (model X.prog X.w) X.A.in1 (Builtin.«object.__ne__» ⟨[.ref a, u], []⟩) (fun r s' => ∃ w, r = .done (.ret w) ∧ (w ≠ .notImplemented ∧ EP X pins σ Q w s')) X.xe s := by
    unfold Builtin.«object.__ne__»
    repeat (first
      | with_reducible refine wpAny_cRoomFor (show X.A.in1.units < cLine by show X.A.units + 1 < cLine; omega) ?_
      | (refine wpAny_bind (m := callSpecialIfBound? (.ref a) (Str.ofString "__eq__") [u]) (PySem.W.ifBound_K XK J hm.at_ hm.fn
          (wpAny_mono (wpAny_call (SlX.run_at (us := [.ref a, u]) (ws := [.ref a, y]) F (show Room n X.A.in1 from Room.in1 hr) I.env0.in1 hx I (.cons rfl (.cons ry .nil)) q)) (fun w s' z => by
            obtain ⟨z', H', I', rz, c, ez, qz⟩ := z
            subst ez
            cases (show w = Value.bool c from rz)
            repeat (first | exact ⟨_, rfl, nofun, .bl (!c), H', I', rfl, qz⟩ | exact wpAny_pure ⟨_, rfl, nofun, .bl (!c), H', I', rfl, qz⟩ | (refine wpAny_bind (m := truthy (.bool _)) (wpAny_truthy_bool ?_)) | wp_step)) fun _ _ e => e)))
      | wp_step)
  have one : wpAny (model X.prog X.w) X.A (tryCompare (.ref a) "__ne__" u) (fun r s' => ∃ w, r = some w ∧ EP X pins σ Q w s') X.xe s := by
    unfold tryCompare
    refine wpAny_bind (ifBound_objNe XK J hne ?_)
    refine wpAny_call (codeAny_call_builtin PySem.F.cmp_object.ne.plain PySem.F.cmpEntry_ne (PySem.W.check_slot PySem.F.cmpKind_ne PySem.F.cmpSplit_ne (J.type.andThen (PySem.W.looks_mroIn XK hob)) (PySem.F.cmpArgs_ne _ _) (wpAny_mono entry (fun r s' z => ?_) fun _ _ e => e)))
    obtain ⟨w, rfl, hw, ep⟩ := z
    cases w <;> first | exact (hw rfl).elim | exact wpAny_pure ⟨_, rfl, ep⟩
  show wpAny _ _ (richCompare .NotEq (.ref a) u) _ _ _
  unfold richCompare
  simp only [oneThing_ref]
  refine wpAny_holding (wpAny_bind (wpAny_cRoomFor (by omega) ?_))
  refine wpAny_bind (J.type.here (wpAny_bind (hb.here ?_)))
  split
  · rename_i q
    have e : PySem.W.subIn X.K t (.ref C) = some false := by
      rcases Bool.or_eq_true_iff.mp hs with e | e
      · rw [beq_iff_eq.mp e] at q; simp at q
      · exact beq_iff_eq.mp e
    refine wpAny_bind ((PySem.W.looks_subIn XK e).here ?_)
    simp only [Bool.false_eq_true, if_false]
    refine wpAny_bind (m := tryCompare (.ref a) _ u) (wpAny_mono one (fun r s' z => ?_) fun _ _ e => e)
    obtain ⟨w, rfl, ep⟩ := z
    exact wpAny_pure ep
  · refine wpAny_bind (wpAny_pure ?_)
    simp only [Bool.false_eq_true, if_false]
    refine wpAny_bind (m := tryCompare (.ref a) _ u) (wpAny_mono one (fun r s' z => ?_) fun _ _ e => e)
    obtain ⟨w, rfl, ep⟩ := z
    exact wpAny_pure ep
/-- repr(o) by an own __repr__ -/
def rReprOwn (C : Addr) (sp : Sp) (E : XK) : List V → Hp → VK → Prop := fun xs H Q => ∃ a dx fs, xs = [V.ref a] ∧ H a = some (.ins C dx fs) ∧ sp [V.ref a] H (fun z H' => ∃ y : Str, z = .str y ∧ Q z H') E
theorem call_ownRepr (hm : Meth X.K C (Str.ofString "__repr__") f) (F : FnR X.prog X.w X.K X.mg X.base CX n f sp) (hr : Room (n + 1) X.A) (hx : Passes CX X E) : CallR X (.builtin "repr") (rReprOwn C sp E) := by
  intro pins s σ H xs us Q I r h
  obtain ⟨a, dx, fs, rfl, ha, q⟩ := h
  obtain ⟨u, rfl, ru⟩ := r.one
  cases (show u = Value.ref a from ru)
  obtain ⟨ox, od, J⟩ := ins_inst I ha
  obtain ⟨m, hF⟩ := I.fr
  refine PySem.W.repr_K (show Room n X.A.in1 from Room.in1 hr).units0 hF I.ok.mod.kin J hm.at_ hm.fn ?_
  refine wpAny_mono (wpAny_call (SlX.run_at (us := [.ref a]) (ws := [.ref a]) F (show Room n X.A.in1 from Room.in1 hr) I.env0.in1 hx I (.cons rfl .nil) q)) (fun w s' z => ?_) fun _ _ x => x
  obtain ⟨z', H', I', rz, y, ez, qz⟩ := z
  subst ez
  obtain ⟨t, e⟩ := (show ∃ t, w = Value.str y t from rz)
  cases e
  exact ⟨.str y, H', I', ⟨_, rfl⟩, qz⟩
end
/-! ### f-strings -/
def gFmt (x : V) (H1 : Hp) (Q : VK) : Prop := (∃ y : Str, x = .str y ∧ y.length ≤ sizeLine ∧ Q (.str y) H1) ∨ ∃ i : Int, x = .int i ∧ i.natAbs.log2 < 1920 ∧ Q (.str (toString i)) H1
section
variable {σ : L2.St} {H : Hp} {te : TE} {ts : List TE} {acc : Str} {Q : VK} {QS : Str → Hp → Prop} {t : TE} {y : Str} {i : Int} {R : Str → Prop}
theorem r_fmt (q : te σ H fun x H1 => gFmt x H1 Q) : tFmt te σ H Q := q
theorem fmt_s (hz : y.length ≤ sizeLine) (q : Q (.str y) H) : gFmt (.str y) H Q := .inl ⟨y, rfl, hz, q⟩
theorem fmt_i (hz : i.natAbs.log2 < 1920) (q : Q (.str (toString i)) H) : gFmt (.int i) H Q := .inr ⟨i, rfl, hz, q⟩
theorem js_nil (q : QS acc H) : tJs [] acc σ H QS := q
theorem js_cons (q : t σ H fun x H1 => ∃ y : Str, x = .str y ∧ (acc ++ y).length ≤ sizeLine ∧ tJs ts (acc ++ y) σ H1 QS) : tJs (t :: ts) acc σ H QS := q
theorem js_put (hz : acc.length + y.length ≤ sizeLine) (q : R y) : ∃ y', V.str y = .str y' ∧ (acc ++ y').length ≤ sizeLine ∧ R y' := ⟨y, rfl, by rw [str_len_app]; exact hz, q⟩
end
/-- how long the text of a number is -/
def It (i : Int) : Str := toString i
/-! ### sep.join(xs) -/
def gJoin (K : PySem.W.Frag) : V → List V → Hp → VK → Prop := fun x xs H Q => ∃ a p, ∃ ys : List Str, x = .str a ∧ xs = [.ref p] ∧ (SqL K H p (ys.map V.str) ∨ SqT K H p (ys.map V.str)) ∧ (ys.map (·.length)).sum + ys.length * a.length ≤ 16777216 ∧ Q (.str (Txt.join a ys)) H
theorem pe_gJoin {X : Cx} {K : PySem.W.Frag} {o e : Expr} {to te : TE} {apos pos : Pos} (hK : X.K = K) (ho : PE X o to) (he : PE X e te) (hs : starEach [e] X.env = [(false, eval e X.env)] := by rfl) (hbase : attributeBase o "join" X.env (eval o X.env) = eval o X.env := by rfl) (hline : (apos.endLine == pos.line) = true := by rfl) :
    PE X (.Call (.Attribute o "join" apos) [e] [] pos) (tM1 (gJoin K) to te) := by
  rw [← hK]
  exact pe_join ho he hs hbase hline
section
variable {σ : L2.St} {H : Hp} {l : List Asn} {to te : TE} {r : V → List V → Hp → VK → Prop} {Q : VK} {K : PySem.W.Frag} {p : Addr} {a : Str} {ys : List Str} {e : Nat} {P : Prop}
theorem r_m1 (q : to σ H fun x H1 => (∃ a, x = .str a) ∧ te σ H1 fun y H2 => r x [y] H2 Q) : tM1 r to te σ H Q := q
theorem r_isstr (q : P) : (∃ b, V.str a = .str b) ∧ P := ⟨⟨a, rfl⟩, q⟩
theorem sum_le : ∀ {xs : List Nat} {B : Nat}, (∀ x ∈ xs, x ≤ B) → xs.sum ≤ xs.length * B
  | [], _, _ => Nat.zero_le _
  | x :: xs, B, h => by
    have h1 := h x List.mem_cons_self
    have h2 := sum_le (xs := xs) (B := B) fun y hy => h y (List.mem_cons_of_mem _ hy)
    rw [List.sum_cons, List.length_cons, Nat.add_mul, Nat.one_mul]
    omega
theorem c_join {B : Nat} (S : Sep l H) (hi : l[e]? = some (At p (.lst (ys.map V.str)))) (hB : ∀ y ∈ ys, y.length ≤ B) (hz : ys.length * B + ys.length * a.length ≤ 16777216) (q : Q (.str (Txt.join a ys)) H) : gJoin K (.str a) [.ref p] H Q :=
  ⟨a, p, ys, rfl, rfl, .inl (SqL.of (S.at hi)), by
    have := sum_le (xs := ys.map (·.length)) (B := B) fun x hx => by
      obtain ⟨y, hy, e⟩ := List.mem_map.1 hx
      rw [← e]; exact hB y hy
    rw [List.length_map] at this
    omega, q⟩
theorem c_joinT {B : Nat} (S : Sep l H) (hi : l[e]? = some (Tp p (ys.map V.str))) (hB : ∀ y ∈ ys, y.length ≤ B) (hz : ys.length * B + ys.length * a.length ≤ 16777216) (q : Q (.str (Txt.join a ys)) H) : gJoin K (.str a) [.ref p] H Q :=
  ⟨a, p, ys, rfl, rfl, .inr (SqT.of (S.tp hi)), by
    have := sum_le (xs := ys.map (·.length)) (B := B) fun x hx => by
      obtain ⟨y, hy, e⟩ := List.mem_map.1 hx
      rw [← e]; exact hB y hy
    rw [List.length_map] at this
    omega, q⟩
end
theorem join_len {a : Str} {B : Nat} : ∀ {ys : List Str}, (∀ y ∈ ys, y.length ≤ B) → (Txt.join a ys).length ≤ ys.length * (B + a.length)
  | [], _ => Nat.zero_le _
  | [y], h => by
    have := h y List.mem_cons_self
    show y.length ≤ 1 * (B + a.length)
    omega
  | y :: z :: ys, h => by
    have h1 := h y List.mem_cons_self
    have h2 := join_len (a := a) (B := B) (ys := z :: ys) fun x hx => h x (List.mem_cons_of_mem _ hx)
    have e : Txt.join a (y :: z :: ys) = y ++ a ++ Txt.join a (z :: ys) := by
      rw [TL.join_eq, TL.join_eq]; rfl
    rw [e, str_len_app, str_len_app, List.length_cons, Nat.add_mul, Nat.one_mul]
    omega
theorem int_len {i : Int} {k : Nat} (hk : 0 < k) (h : i.natAbs < 2 ^ k) : (Str.ofString (toString i)).length ≤ k + 1 := by
  rw [PySem.ofString_length]
  exact int_text_length_le hk (PySem.Flt.log2_lt_of hk h)
end
local macro_rules | `(tactic| walk_at "v1") => `(tactic| (first
  | with_reducible refine r_fmt ?_
  | with_reducible refine js_nil ?_
  | with_reducible refine js_cons ?_
  | with_reducible refine r_m1 ?_
  | with_reducible refine r_isstr ?_))
section
variable {l : List Asn} {H : Hp} {K : PySem.W.Frag} {C p : Addr} {g : Str → Int} {e : Nat} {y : V} {t : Value} {sp : Sp} {E : XK} {Q : VK}
theorem x_co (S : Sep l H) (hi : l[e]? = some (Co p C g)) (ht : TyX K H y t) (hn : PySem.W.notFirst K C t = true) (k : sp [.ref p, y] H Q E) : rCmpX K C sp E (.ref p) y H Q := by
  obtain ⟨dx, fs, h⟩ := ins_co S hi
  exact ⟨p, dx, fs, t, rfl, h, ht, hn, k⟩
theorem x_coNe (S : Sep l H) (hi : l[e]? = some (Co p C g)) (ht : TyX K H y t) (hn : PySem.W.notFirst K C t = true) (k : sp [.ref p, y] H (fun z H' => ∃ c : Bool, z = .bl c ∧ Q (.bl (!c)) H') E) : rNeX K C sp E (.ref p) y H Q := by
  obtain ⟨dx, fs, h⟩ := ins_co S hi
  exact ⟨p, dx, fs, t, rfl, h, ht, hn, k⟩
theorem rp_co (S : Sep l H) (hi : l[e]? = some (Co p C g)) (k : sp [.ref p] H (fun z H' => ∃ y : Str, z = .str y ∧ Q z H') E) : rReprOwn C sp E [.ref p] H Q := by
  obtain ⟨dx, fs, h⟩ := ins_co S hi
  exact ⟨p, dx, fs, rfl, h, k⟩
end
/-- truth of a word about anything -/
noncomputable def dP (P : Prop) : Bool := @decide P (Classical.propDecidable P)
theorem dP_iff {P : Prop} : dP P = true ↔ P := by
  unfold dP
  exact @decide_eq_true_iff P (Classical.propDecidable P)
theorem dP_of {P : Prop} {b : Bool} (h : b = true ↔ P) : b = dP P := by
  cases b with
  | true => exact (dP_iff.2 (h.1 rfl)).symm
  | false =>
    cases e : dP P with
    | false => rfl
    | true => exact h.2 (dP_iff.1 e)

/-! rules: what is read of them, their methods -/
section
open PyProof.Rows
theorem PE.or {X : Cx} {e : Expr} {t u : TE} (h : PE X e t) (k : PE X e u) : PE X e (fun σ H Q => t σ H Q ∨ u σ H Q) :=
  ⟨fun pins s σ H Q I q => q.elim (h.run pins s σ H Q I) (k.run pins s σ H Q I)⟩
theorem lkN3 {f : Str} {a b c : V} (h1 : (f == ("least" : Str)) = false) (h2 : (f == ("most" : Str)) = false) (h3 : (f == ("kinds" : Str)) = false) : List.lookup f [(("least" : Str), a), (("most" : Str), b), (("kinds" : Str), c)] = none := by
  show (match f == ("least" : Str) with | true => some a | false => (match f == ("most" : Str) with | true => some b | false => (match f == ("kinds" : Str) with | true => some c | false => none))) = none
  rw [h1, h2, h3]
section
variable {l : List Asn} {H : Hp} {p C : Addr} {a b : V} {ks : List V} {e : Nat} {K : PySem.W.Frag} {Q : VK} {f : Str} {R : Prop}
theorem ru_at (S : Sep l H) (hi : l[e]? = some (Ru p C a b ks)) : ∃ dx t, H p = some (.ins C dx [("least", a), ("most", b), ("kinds", .ref t)]) ∧ H t = some (.tup ks) := by
  obtain ⟨t, S1⟩ := ru_open (S.pick hi)
  obtain ⟨dx, h⟩ := ob_at S1 (e := 0) rfl
  exact ⟨dx, t, h, S1.tp (i := 1) rfl⟩
theorem f_ruL (S : Sep l H) (hi : l[e]? = some (Ru p C a b ks)) (hC : Kl K C rNs) (q : Q a H) : gFldR K "least" (.ref p) H Q := by
  obtain ⟨dx, t, h, _⟩ := ru_at S hi
  exact ⟨p, C, dx, _, a, rfl, h, hC.c, hC.n "least" (by decide), lk0, q⟩
theorem f_ruM (S : Sep l H) (hi : l[e]? = some (Ru p C a b ks)) (hC : Kl K C rNs) (q : Q b H) : gFldR K "most" (.ref p) H Q := by
  obtain ⟨dx, t, h, _⟩ := ru_at S hi
  exact ⟨p, C, dx, _, b, rfl, h, hC.c, hC.n "most" (by decide), lkS (by decide +kernel) lk0, q⟩
theorem f_ruK (S : Sep l H) (hi : l[e]? = some (Ru p C a b ks)) (hC : Kl K C rNs) (k : ∀ t, Sep (Tp t ks :: l) H → Q (.ref t) H) : gFldR K "kinds" (.ref p) H Q := by
  obtain ⟨dx, t, h, ht⟩ := ru_at S hi
  exact ⟨p, C, dx, _, _, rfl, h, hC.c, hC.n "kinds" (by decide), lkS (by decide +kernel) (lkS (by decide +kernel) lk0), k t (S.addT ht)⟩
theorem m_ru (S : Sep l H) (hi : l[e]? = some (Ru p C a b ks)) (h1 : (f == ("least" : Str)) = false) (h2 : (f == ("most" : Str)) = false) (h3 : (f == ("kinds" : Str)) = false) (q : R) : gM C f (.ref p) H R := by
  obtain ⟨dx, t, h, _⟩ := ru_at S hi
  exact ⟨p, dx, _, rfl, h, lkN3 h1 h2 h3, q⟩
theorem i_ru {D : Addr} {c : Bool} (S : Sep l H) (hi : l[e]? = some (Ru p C a b ks)) (hC : Kl K C rNs) (ki : Ki K C) (hk : PySem.W.kitOne K (.ref C) (.ref D) = some c) (q : Q (.bl c) H) : gIsi K [.ref p, .ref D] H Q := by
  obtain ⟨dx, t, h, _⟩ := ru_at S hi
  exact i_one (.own D) (.base (.ins h hC.c ki.ha ki.hn ki.ht ki.hm)) hk q
end
end
local macro_rules | `(tactic| walk_at "v1") => `(tactic| (first
  | ((with_reducible refine' f_ruL (by assumption) ?hi ?hC ?_); (case hi => walk_at "has"); (case hC => assumption))
  | ((with_reducible refine' f_ruM (by assumption) ?hi ?hC ?_); (case hi => walk_at "has"); (case hC => assumption))
  | ((with_reducible refine' f_ruK (by assumption) ?hi ?hC ?_); (case hi => walk_at "has"); (case hC => assumption); intro _ _)
  | ((with_reducible refine' m_ru (by assumption) ?hi ?h1 ?h2 ?h3 ?_); (case hi => walk_at "has"); (case h1 => decide +kernel); (case h2 => decide +kernel); (case h3 => decide +kernel))))
/-! [e for x in t], t a tuple -/
section
variable {σ : L2.St} {H : Hp} {K : PySem.W.Frag} {g : TG} {te ta : TE} {tt : TT} {vs : List Nat} {Q : VK} {l : List Asn} {p : Addr} {xs : List V}
theorem lcT {e : Nat} (S : Sep l H) (hi : l[e]? = some (Tp p xs)) (Pv : Addr → Nat → Hp → Prop) (h0 : ∀ D H', Sep (At D (.lst []) :: l) H' → Pv D 0 H') (hl : ∀ D i H, Pv D i H → H p = some (.tup xs))
    (hs : ∀ D i x H, xs[i]? = some x → Pv D i H → LcT g tt ta vs σ x D (Pv D (i + 1)) H) (hd : ∀ D H, Pv D xs.length H → Q (.ref D) H) : ∃ a, V.ref p = .ref a ∧ (∃ xs, SqT K H a xs) ∧ LcB (Itt K a) g tt ta vs σ H Q :=
  ⟨p, rfl, ⟨xs, SqT.of (S.tp hi)⟩, fun D hD => lc_tup (K := K) (Pv D) (h0 D _ (S.new hD)) (fun i H _ q => SqT.of (hl D i H q)) (hs D) (hd D)⟩
end
/-- sum(xs) -/
def gSum (K : PySem.W.Frag) : List V → Hp → VK → Prop := rSum K
theorem call_gSum {X : Cx} {K : PySem.W.Frag} (hK : X.K = K) (hc : X.calm = true) : CallR X (.builtin "sum") (gSum K) := by rw [← hK]; exact cr_sum hc
section
variable {l : List Asn} {H : Hp} {K : PySem.W.Frag} {Q : VK} {p : Addr} {e : Nat}
theorem c_sum {ns : List Int} (S : Sep l H) (hi : l[e]? = some (At p (.lst (ns.map V.int)))) (q : Q (.int ns.sum) H) : gSum K [.ref p] H Q := ⟨p, ns, rfl, SqL.of (S.at hi), q⟩
end
local macro_rules | `(tactic| walk_at "v1") => `(tactic| ((with_reducible refine' c_sum (by assumption) ?hi ?_); (case hi => walk_at "has")))
theorem is_nn {P : Bool → Prop} (q : P true) : P (decide (V.non = V.non)) := by rw [decide_eq_true rfl]; exact q
theorem is_in {n : Int} {P : Bool → Prop} (q : P false) : P (decide (V.int n = V.non)) := by rw [decide_eq_false (fun z => nomatch z)]; exact q

/-! own errors: made, raised, caught -/
theorem SepF.ext {l : List Asn} {g : Addr → Prop} {H H' : Hp} (S : SepF l g H) (h : ∀ b o, H b = some o → H' b = some o) : SepF l g H' :=
  S.st (fun a z => by
    obtain ⟨o, e⟩ := S.al a z
    rw [e]; exact h a o e) fun b xs e => h b _ e
theorem Sep.ext {l : List Asn} {H H' : Hp} (S : Sep l H) (h : ∀ b o, H b = some o → H' b = some o) : Sep l H' := by
  obtain ⟨g, S⟩ := S
  exact ⟨g, S.ext h⟩
theorem Sep.ext1 {l : List Asn} {H H' : Hp} {d : Addr} {o : HO} (S : Sep l H) (h : ∀ b o, H b = some o → H' b = some o) (hd : H d = none) (hd' : H' d = some o) : Sep (At d o :: l) H' := by
  obtain ⟨g, S⟩ := S
  refine ⟨_, .cons (f := fun a => a = d) ⟨hd', fun _ => Iff.rfl⟩ (S.ext h) fun a z w => ?_⟩
  obtain ⟨u, e⟩ := S.al a w
  rw [z, hd] at e
  cases e
/-- __init__ of an error with one field f -/
def sp_exi (K : PySem.W.Frag) (f : Str) : Sp := fun vs H Q _ => ∃ (a C : Addr) (x : V), vs = [.ref a, x] ∧ OexC K C ∧ PySem.W.findIn K (.ref C) f = some none ∧ H a = some (exo a C none) ∧
  ∀ dx, H dx = none → dx ≠ a → Q .non (upd (upd H dx (exd dx [(f, x)])) a (exo a C (some dx)))
section
variable {σ : L2.St} {H : Hp} {K : PySem.W.Frag} {to te : TE} {ta : TA} {f : Str} {nx bk ct : L2.St → Hp → Prop} {rt : VK} {Q : VK} {l : List Asn} {C : Addr} {x : V} {W : WX} {sp : Sp} {dvs : List V}
def tOstK (K : PySem.W.Frag) (f : Str) (to te : TE) : TS := tOst K f to te
theorem ps_gOst {X : Cx} {o e : Expr} {p' pos : Pos} (hK : X.K = K) (ho : PE X o to) (he : PE X e te) (hs : swapsWith e (some (.Attribute o f p')) pos.line X.env = pure false := by rfl) : PS X (.Assign [.Attribute o f p'] e pos) (tOstK K f to te) := by
  rw [← hK]; exact ps_ost ho he hs
theorem r_ost (q : te σ H fun y H1 => to σ H1 fun x H2 => ∃ a C : Addr, x = .ref a ∧ OexC K C ∧ PySem.W.findIn K (.ref C) f = some none ∧
  ((H2 a = some (exo a C none) ∧ ∀ dx, H2 dx = none → dx ≠ a → nx σ (upd (upd H2 dx (exd dx [(f, y)])) a (exo a C (some dx)))) ∨
    ∃ (dx : Addr) (fs : List (Str × V)), H2 a = some (exo a C (some dx)) ∧ H2 dx = some (exd dx fs) ∧ fs.length ≤ 900 ∧ nx σ (upd H2 dx (exd dx ((f, y) :: fs))))) : tOstK K f to te ⟨nx, rt, bk, ct⟩ σ H := q
/-- what C(x) asks where it is raised -/
@[irreducible] def gMkO (C : Addr) (sp : Sp) (dvs vs : List V) (H1 : Hp) (Q : XK) : Prop := vs.length ≤ 1000 ∧ ∀ a, H1 a = none → sp (.ref a :: (vs ++ dvs)) (upd H1 a (exo a C none))
  (fun v H2 => v = .non ∧ ∃ (d : Addr) (fs : List (Str × V)), H2 a = some (exo a C (some d)) ∧ H2 d = some (exd d fs) ∧ H1 d = none ∧ Q (.ref C) (some d) (upd (del H2 a) d (.xd fs))) (fun _ _ _ => False)
theorem mk_one {Q : XK} (S : Sep l H) (T : OexC K C) (hno : PySem.W.findIn K (.ref C) f = some none) (k : ∀ d H', Sep (At d (.xd [(f, x)]) :: l) H' → Q (.ref C) (some d) H') : gMkO C (sp_exi K f) [] [x] H Q := by
  unfold gMkO
  refine ⟨by show 1 ≤ 1000; decide, fun a ha => ⟨a, C, x, rfl, T, hno, upd_same, fun dx hdx hne => ⟨rfl, dx, [(f, x)], upd_same, by rw [upd_ne hne]; exact upd_same, ?_, ?_⟩⟩⟩
  · rw [upd_ne hne] at hdx; exact hdx
  · have hd1 : H dx = none := by rw [upd_ne hne] at hdx; exact hdx
    refine k dx _ (S.ext1 (fun b o e => ?_) hd1 upd_same)
    have hb : b ≠ dx := fun z => by rw [z, hd1] at e; cases e
    have hba : b ≠ a := fun z => by rw [z, ha] at e; cases e
    rw [upd_ne hb, del_ne hba, upd_ne hba, upd_ne hb, upd_ne hba]
    exact e
/-- raise C(..) -/
def tRaise (C : Addr) (sp : Sp) (dvs : List V) (ta : TA) (W : WX) : TS := fun _ σ H => ta σ H fun vs H1 => gMkO C sp dvs vs H1 fun cls d H' => W cls d σ H'
theorem ps_gRaise {X : Cx} {e : Expr} {pos : Pos} (hc : X.calm = true) (tk : Takes X W) (he : PMk X e (tMkO C sp dvs ta)) : PS X (.Raise (some e) none pos) (tRaise C sp dvs ta W) := by
  have h := ps_raise (pos := pos) hc tk he
  unfold tRaise gMkO
  exact h
theorem r_raise {D : L2.Ends} (q : ta σ H fun vs H1 => gMkO C sp dvs vs H1 fun cls d H' => W cls d σ H') : tRaise C sp dvs ta W D σ H := q
/-- try .. except C: .. -/
def tTry (K : PySem.W.Frag) (c : Value) (tb : WX → TS) (ts : Addr → Value → Option Addr → TS) (Wout : WX) : TS := fun D σ H => tb (wOnly K c ts Wout D) D σ H
theorem ps_gTry {X : Cx} {x : Str} {c : Value} {body suite : List Stmt} {b₀ : Stmt} {np pos pos' : Pos} {tb : WX → TS} {ts : Addr → Value → Option Addr → TS} {Wout : WX} (hK : X.K = K) (hs : X.stack = X.env :: X.outer) (hf : X.env.frame = some X.env.locals) (hc : Names X x c) (tk : Takes X Wout)
    (hb : ∀ (W : WX) (pn : List (Addr × Obj)) (xe : Value → Shared → Prop), Takes (X.tr pn xe) W → PassesOwn (model X.prog X.w) X.A X.env xe → PSs (X.tr pn xe) body (tb W))
    (hsu : ∀ (a : Addr) (oe : Obj) (cls : Value) (d : Option Addr) (pn : List (Addr × Obj)), Zc cls d oe → (∃ vs, oe.data = .fields vs) → PSs (X.suite a ((a, oe) :: pn)) (b₀ :: suite) (ts a cls d)) :
    PS X (.Try body [.ExceptHandler (some (.Name x np)) none (b₀ :: suite) pos'] [] [] pos) (tTry K c tb ts Wout) := by
  rw [← hK]; exact ps_try_only hs hf hc tk hb hsu
theorem r_try {c : Value} {tb : WX → TS} {ts : Addr → Value → Option Addr → TS} {Wout : WX} (q : tb (wOnly K c ts Wout ⟨nx, rt, bk, ct⟩) ⟨nx, rt, bk, ct⟩ σ H) : tTry K c tb ts Wout ⟨nx, rt, bk, ct⟩ σ H := q
theorem w_only {c cls : Value} {d : Option Addr} {ts : Addr → Value → Option Addr → TS} {Wout : WX} {D : L2.Ends} (h : PySem.W.exmOne K cls c = some true) (k : ∀ a, H a = none → ts a cls d D σ H) : wOnly K c ts Wout D cls d σ H :=
  ⟨true, h, fun _ => k, fun z => nomatch z⟩
end
/-- an error of the class C meets the clause except S -/
theorem exm_pair {K : PySem.W.Frag} {C S : Addr} {b : Bool} (h1 : PySem.W.subIn K (.ref S) (.type "BaseException") = some true) (h2 : PySem.W.isClsIn K S = true) (h3 : PySem.W.typeIn K (.ref S) = some (.type "type")) (h4 : PySem.W.subIn K (.ref C) (.ref S) = some b) : PySem.W.exmOne K (.ref C) (.ref S) = some b := by
  have h5 : (PySem.W.clsIn K S).isSome = true := h2
  unfold PySem.W.exmOne
  simp [h1, h3, h5, h4, PySem.W.kitCls]
open PyProof.Rows in
/-- as fun_star, for a def that may raise -/
theorem fun_starX {P : Program} {w : World} {K : PySem.W.Frag} {mg : Str → Option Value} {base : Heap} {x qual : Str} {st : Stmt} {f : Addr} {fd : FuncData} {N ps : List Str} {pv : Str} {k : Nat} {sp : Sp} (F : Fun K x qual st f fd) (S : FnScope N (ps ++ [pv]) (defScope st))
    (hb : ∀ (kV doc pm : Value) (an : Option Addr) (cdv ct : Value) (us rest : List Value), us.length = ps.length → bindArgs (PySem.W.fnOf x qual (defArgs st) (defBody st) (defScope st) .none kV doc pm an cdv ct) ⟨us ++ rest, []⟩ = (newTuple rest >>= fun t => pure (ps.zip us ++ [(pv, t)])))
    (hbody : ∀ (cdv : Value) (A : Around) (outer : List Env) (s : Shared) (H : Hp) (vs : List V) (Q : VK) (E : XK), Room k (A.deeper (envOfC qual (defScope st) s.heap.objs.size f cdv)) → sp vs H Q E →
      ∃ t, PSs (cxOf (L2.CX P w) P w K mg base N qual (defScope st) f cdv A outer s H E) (defBody st) t ∧ t { nx := fun _ H' => Q .non H', rt := Q } (start N vs) H) : FnR P w K mg base (L2.CX P w) (k + 1) f (stSp ps.length sp) := by
  obtain ⟨oc, od, kV, doc, pm, an, cdv, ct, osl, rfl, lk, hcd⟩ := F.ex
  exact StX.fn_star lk hcd S StX.cxUp (hb kV doc pm an cdv ct) fun A outer s H vs Q E hr hsp => hbody cdv A outer s H vs Q E hr hsp
local macro_rules | `(tactic| walk_at "v1") => `(tactic| (first
  | with_reducible refine r_raise ?_
  | with_reducible refine r_ost ?_
  | with_reducible refine r_try ?_))

/-! except .. as e: its fields, its class -/
/-- isinstance(e, c), e a caught error with a dict -/
def rIsD (K : PySem.W.Frag) (D a : Addr) (cls : Value) (d : Option Addr) : List V → Hp → VK → Prop := fun zs H Q => ∃ (c : V) (cv : Value) (b : Bool) (dd : Addr) (fs : List (Str × V)), zs = [.ref a, c] ∧ cls = .ref D ∧ d = some dd ∧ H dd = some (.xd fs) ∧ ClsV c cv ∧ PySem.W.kitOne K (.ref D) cv = some b ∧ Q (.bl b) H
theorem call_isD {X : Cx} {K : PySem.W.Frag} (hK : X.K = K) {a D : Addr} {oe : Obj} {cls : Value} {d : Option Addr} {pn : List (Addr × Obj)} (T : ExcC K D) (hz : Zc cls d oe) (hf : ∃ vs, oe.data = .fields vs) : CallR (X.suite a ((a, oe) :: pn)) (.builtin "isinstance") (rIsD K D a cls d) := by
  subst hK
  intro ps s0 σ0 H0 zs us Q0 I0 r0 h0
  obtain ⟨c, cv, b, dd, fs, rfl, ec, ed, hd, hcv, e, q⟩ := h0
  obtain ⟨u1, u2, rfl, r1, r2⟩ := r0.two
  cases (show u1 = Value.ref a from r1)
  cases hcv.eq r2
  subst ec ed
  have hp := (I0.pin (a, oe) (by simp [Cx.suite])).1
  obtain ⟨fv, hv⟩ := hf
  have ho : ObjOk X.prog X.w H0 s0.heap dd (.xd fs) := I0.hok dd _ hd
  obtain ⟨mA, hns, _⟩ := ho
  obtain ⟨od, hod, _⟩ := lookIn_ns hns
  have J : PySem.W.InstAt s0.heap a oe D (some od) := ⟨hp, hz.1, by unfold PySem.W.notCls; rw [hv], by rw [hz.2]; exact hod⟩
  have hcl : (PySem.W.clsIn X.K D).isSome = true := by
    obtain ⟨cd, hc, _⟩ := PySem.W.any_some T.hd
    rw [hc]; rfl
  exact PySem.W.kia_one (PySem.W.kitx_exc hcl T.hg T.hk T.hs T.ha T.hn T.ht T.hm) I0.kIn J e (by intro z; cases z) fun tk => ⟨.bl b, H0, I0.kept (t' := tk) (fun _ _ z => z), rfl, q⟩
/-- e.f, e a caught error -/
def gXf (a : Addr) (cls : Value) (d : Option Addr) (C : Addr) (f : Str) (x : V) (H1 : Hp) (Q : VK) : Prop := x = .ref a ∧ cls = .ref C ∧ ∃ (dd : Addr) (fs : List (Str × V)) (v : V), d = some dd ∧ H1 dd = some (.xd fs) ∧ fs.lookup f = some v ∧ Q v H1
section
variable {σ : L2.St} {H : Hp} {K : PySem.W.Frag} {te : TE} {ta : TA} {f : Str} {nx bk ct : L2.St → Hp → Prop} {rt : VK} {Q : VK} {l : List Asn} {C D : Addr} {x v : V} {W : WX} {sp : Sp} {i j : Nat} {a dd : Addr} {fs : List (Str × V)}
theorem r_xf {cls : Value} {d : Option Addr} (q : te σ H fun x H1 => gXf a cls d C f x H1 Q) : tXf a cls d C f te σ H Q := q
theorem x_xf (S : Sep l H) (hi : l[i]? = some (At dd (.xd fs))) (hf : fs.lookup f = some v) (q : Q v H) : gXf a (.ref C) (some dd) C f (.ref a) H Q := ⟨rfl, rfl, dd, fs, v, rfl, S.at hi, hf, q⟩
theorem c_isD {c : V} {cv : Value} {b : Bool} (S : Sep l H) (hi : l[i]? = some (At dd (.xd fs))) (hc : ClsV c cv) (hk : PySem.W.kitOne K (.ref D) cv = some b) (q : Q (.bl b) H) : rIsD K D a (.ref D) (some dd) [.ref a, c] H Q := ⟨c, cv, b, dd, fs, rfl, rfl, rfl, S.at hi, hc, hk, q⟩
theorem pe_gXf {X : Cx} (hK : X.K = K) {oe : Obj} {cls : Value} {d : Option Addr} {pn : List (Addr × Obj)} {e : Expr} {pos : Pos} {n : Str} (T : XfC K C) (hno : PySem.W.findIn K (.ref C) n = some none) (hz : Zc cls d oe) (hf : ∃ vs, oe.data = .fields vs) (he : PE (X.suite a ((a, oe) :: pn)) e te) (hb : attributeBase e n X.env (eval e X.env) = eval e X.env := by rfl) :
    PE (X.suite a ((a, oe) :: pn)) (.Attribute e n pos) (tXf a cls d C n te) := by subst hK; exact pe_xf T hno hz hf he hb
/-- try .. except C as e: .. (e in slot i) -/
def tTryAs (K : PySem.W.Frag) (c : Value) (i : Nat) (tb : WX → TS) (ts : Addr → Value → Option Addr → TS) (Wout : WX) : TS := fun D σ H => tb (wAs K c i ts Wout D) D σ H
theorem ps_gTryAs {X : Cx} {x n : Str} {c : Value} {body suite : List Stmt} {b₀ : Stmt} {np p1 p2 : Pos} {tb : WX → TS} {ts : Addr → Value → Option Addr → TS} {Wout : WX} (hK : X.K = K) (hs : X.stack = X.env :: X.outer) (hf : X.env.frame = some X.env.locals) (hN : X.N.Nodup) (hi : X.N[i]? = some n) (hln : X.env.kindOf n = some .local) (hc : Names X x c) (tk : Takes X Wout)
    (hb : ∀ (W : WX) (pn : List (Addr × Obj)) (xe : Value → Shared → Prop), Takes (X.tr pn xe) W → PassesOwn (model X.prog X.w) X.A X.env xe → PSs (X.tr pn xe) body (tb W))
    (hsu : ∀ (a : Addr) (oe : Obj) (cls : Value) (d : Option Addr) (pn : List (Addr × Obj)), Zc cls d oe → (∃ vs, oe.data = .fields vs) → PSs (X.suite a ((a, oe) :: pn)) (b₀ :: suite) (ts a cls d)) :
    PS X (.Try body [.ExceptHandler (some (.Name x np)) (some n) (b₀ :: suite) p2] [] [] p1) (tTryAs K c i tb ts Wout) := by
  subst hK; exact ps_try_as hs hf hN hi hln hc tk hb hsu
theorem r_tryAs {c : Value} {tb : WX → TS} {ts : Addr → Value → Option Addr → TS} {Wout : WX} (q : tb (wAs K c i ts Wout ⟨nx, rt, bk, ct⟩) ⟨nx, rt, bk, ct⟩ σ H) : tTryAs K c i tb ts Wout ⟨nx, rt, bk, ct⟩ σ H := q
theorem w_as {c cls : Value} {d : Option Addr} {ts : Addr → Value → Option Addr → TS} {Wout : WX} (h : PySem.W.exmOne K cls c = some true) (k : ∀ a, H a = none → ts a cls d ⟨fun σ' H' => nx (σ'.set i none) H', rt, fun σ' H' => bk (σ'.set i none) H', fun σ' H' => ct (σ'.set i none) H'⟩ (σ.set i (some (.ref a))) H) : wAs K c i ts Wout ⟨nx, rt, bk, ct⟩ cls d σ H :=
  ⟨true, h, fun _ => k, fun z => Bool.noConfusion z⟩
theorem r_callS {E : L2.St → XK} (q : ta σ H fun vs H1 => sp vs H1 Q (E σ)) : tCallS sp E ta σ H Q := q
/-- a, b, .. = a list -/
def gLstK (K : PySem.W.Frag) (n : Nat) (t : TGs) : TG := gLst K n t
theorem pg_gLst {X : Cx} {pos : Pos} {es : List Expr} {k : Nat} {t : TGs} {n : Nat} (hK : X.K = K) (hc : X.calm = true) (h : PGs X es t) (hn : (assignEach es X.env).length = n := by rfl) (hst : (assignEach es X.env).findIdx? (·.1) = none := by rfl) : PG X (.Tuple es k pos) (gLstK K n t) := by
  subst hK; exact pg_lst hc h hn hst
theorem g_lstK {t : TGs} {p : Addr} {xs : List V} {R : L2.St → Hp → Prop} (S : Sep l H) (hi : l[j]? = some (At p (.lst xs))) (hz : xs.length = i) (q : t xs σ H R) : gLstK K i t (.ref p) σ H R := ⟨p, xs, rfl, SqL.of (S.at hi), hz, q⟩
end
/-- a value that is known: plain, or a list that stands in the frame -/
def Lx (fr : List Asn) (x : V) : Prop := (∃ n, x = .int n) ∨ (∃ b, x = .bl b) ∨ x = .non ∨ (∃ w : Str, x = .str w ∧ w.length ≤ 3000) ∨ ∃ (p : Addr) (ys : List V) (i : Nat), x = .ref p ∧ fr[i]? = some (At p (.lst ys))
theorem Lx.up {fr : List Asn} {x : V} {A : Asn} (h : Lx fr x) : Lx (A :: fr) x := by
  rcases h with h | h | h | h | ⟨p, ys, i, h1, h2⟩
  · exact .inl h
  · exact .inr (.inl h)
  · exact .inr (.inr (.inl h))
  · exact .inr (.inr (.inr (.inl h)))
  · exact .inr (.inr (.inr (.inr ⟨p, ys, i + 1, h1, h2⟩)))
theorem lx_str {fr : List Asn} {w : Str} (h : w.length ≤ 3000) : Lx fr (.str w) := .inr (.inr (.inr (.inl ⟨w, rfl, h⟩)))
theorem lx_int {fr : List Asn} {n : Int} : Lx fr (.int n) := .inl ⟨n, rfl⟩
theorem Lx.int? {K : PySem.W.Frag} {H : Hp} {fr : List Asn} {x : V} (h : Lx fr x) (S : Sep fr H) : (∃ n, x = .int n) ∨ (∃ b, x = .bl b) ∨ ((∃ t, TyX K H x t ∧ PySem.W.kitOne K t (.type "int") = some false) ∧ ∀ n, x ≠ .int n) := by
  rcases h with ⟨n, rfl⟩ | ⟨b, rfl⟩ | rfl | ⟨w, rfl, _⟩ | ⟨p, ys, i, rfl, hi⟩
  · exact .inl ⟨n, rfl⟩
  · exact .inr (.inl ⟨b, rfl⟩)
  · exact .inr (.inr ⟨⟨_, .base .non, kit_ty k_ni⟩, fun _ z => nomatch z⟩)
  · exact .inr (.inr ⟨⟨_, .base (.str w), kit_ty k_si⟩, fun _ z => nomatch z⟩)
  · exact .inr (.inr ⟨⟨_, .base (.lst (S.at hi)), kit_ty k_li⟩, fun _ z => nomatch z⟩)
theorem Lx.str? {K : PySem.W.Frag} {H : Hp} {fr : List Asn} {x : V} (h : Lx fr x) (S : Sep fr H) : (∃ w : Str, x = .str w ∧ w.length ≤ 3000) ∨ ((∃ t, TyX K H x t ∧ PySem.W.kitOne K t (.type "str") = some false) ∧ ∀ w, x ≠ .str w) := by
  rcases h with ⟨n, rfl⟩ | ⟨b, rfl⟩ | rfl | ⟨w, rfl, h⟩ | ⟨p, ys, i, rfl, hi⟩
  · exact .inr ⟨⟨_, .base (.int n), kit_ty k_is⟩, fun _ z => nomatch z⟩
  · exact .inr ⟨⟨_, .base (.bl b), kit_ty k_bs⟩, fun _ z => nomatch z⟩
  · exact .inr ⟨⟨_, .base .non, kit_ty k_ns⟩, fun _ z => nomatch z⟩
  · exact .inl ⟨w, rfl, h⟩
  · exact .inr ⟨⟨_, .base (.lst (S.at hi)), kit_ty k_ls⟩, fun _ z => nomatch z⟩
/-- the parts of a rule, good or bad -/
def okN (x : V) : Prop := ∃ n : Int, x = .int n ∧ 0 ≤ n ∧ n < 10
def okK (x : V) : Prop := ∃ w : Str, x = .str w ∧ Kd w
def BadN (ns : List V) : Prop := (∃ x ∈ ns, ¬ okN x) ∨ ∃ a b : Int, ns = [.int a, .int b] ∧ b < a
def BadK (ks : List V) : Prop := ¬ (1 ≤ ks.length ∧ ks.length ≤ 3) ∨ (∃ x ∈ ks, ¬ okK x) ∨ ¬ ks.Nodup
def Ver (ns ks : List V) (r : Option Str) : Prop := (BadN ns ∧ r = some "number") ∨ (¬ BadN ns ∧ BadK ks ∧ r = some "kinds") ∨ (¬ BadN ns ∧ ¬ BadK ks ∧ r = none)
theorem okN_int {n : Int} : okN (.int n) ↔ 0 ≤ n ∧ n < 10 := ⟨fun ⟨m, e, h⟩ => by cases e; exact h, fun h => ⟨n, rfl, h⟩⟩
theorem okK_str {w : Str} : okK (.str w) ↔ Kd w := ⟨fun ⟨m, e, h⟩ => by cases e; exact h, fun h => ⟨w, rfl, h⟩⟩
theorem oks_strs : ∀ {ks : List V}, (∀ x ∈ ks, okK x) → ∃ ws : List Str, ks = ws.map V.str ∧ ∀ w ∈ ws, Kd w
  | [], _ => ⟨[], rfl, fun _ z => nomatch z⟩
  | x :: ks, h => by
    obtain ⟨w, rfl, hw⟩ := h x List.mem_cons_self
    obtain ⟨ws, rfl, hs⟩ := oks_strs fun y hy => h y (List.mem_cons_of_mem _ hy)
    refine ⟨w :: ws, rfl, fun v hv => ?_⟩
    rcases List.mem_cons.1 hv with rfl | hv
    · exact hw
    · exact hs v hv
local macro_rules | `(tactic| walk_at "v1") => `(tactic| (first
  | with_reducible refine r_xf ?_
  | with_reducible refine r_tryAs ?_
  | with_reducible refine r_callS ?_
  | ((with_reducible refine' x_xf (by assumption) ?hi ?hf ?_); (case hi => walk_at "has"); (case hf => exact lk0))
  | ((with_reducible refine' g_lstK (by assumption) ?hi ?hz ?_); (case hi => walk_at "has"); (case hz => rfl))))

/-! **kw with names given -/
section
open PyProof.Rows
theorem prs_snoc {P : Program} {w : World} {e : DictEntry} {q : Key × Value} : ∀ {es : List DictEntry} {kvs : List (Key × Value)}, PySem.Pairs (mixKind P w) es kvs → (mixKind P w).is q.1 e.key = true → e.val = q.2 → PySem.Pairs (mixKind P w) (es ++ [e]) (kvs ++ [q])
  | _, _, .nil, h1, h2 => .cons h1 h2 .nil
  | _, _, .cons a b r, h1, h2 => .cons a b (prs_snoc r h1 h2)
theorem prs_mem {P : Program} {w : World} : ∀ {es : List DictEntry} {kvs : List (Key × Value)}, PySem.Pairs (mixKind P w) es kvs → ∀ e ∈ es, ∃ q ∈ kvs, (mixKind P w).is q.1 e.key = true
  | _, _, .nil, _, z => nomatch z
  | _, _, .cons a b r, e, z => by
    rcases List.mem_cons.1 z with rfl | z
    · exact ⟨_, List.mem_cons_self, a⟩
    · obtain ⟨q, hq, h⟩ := prs_mem r e z
      exact ⟨q, List.mem_cons_of_mem _ hq, h⟩
/-- a new name put into a dict -/
theorem ns_put {P : Program} {w : World} {A : Around} {E : Value → Shared → Prop} {s : Shared} {a : Addr} {kvs : List (Key × Value)} {x : Str} {u : Value} {Q : Unit → Shared → Prop} (dd : s.heap.DictOf (mixKind P w) a kvs) (hx : ∀ q ∈ kvs, q.1 ≠ .inr x)
    (h : ∀ h', h'.DictOf (mixKind P w) a (kvs ++ [(.inr x, u)]) → (∀ b, b ≠ a → h'.get? b = s.heap.get? b) → h'.objs.size = s.heap.objs.size → Q () { s with heap := h', toks := s.toks + 1 }) : wpAny (model P w) A (nsSet a x u) Q E s := by
  obtain ⟨o, es, ep, ho, hxd, hd, hk, hp, hn⟩ := dd
  have hno : ∀ e ∈ es, e.key.isStr x = false := fun e he => by
    obtain ⟨q, hq, hi⟩ := prs_mem hp e (Array.mem_toList_iff.2 he)
    cases hs : e.key.isStr x
    · rfl
    · exfalso
      rcases keyIs_shape hi with ⟨i, t, e1, e2⟩ | ⟨y, t, e1, e2⟩
      · rw [e2] at hs; simp [Value.isStr] at hs
      · rw [e2] at hs
        have : y = x := by simpa [Value.isStr] using hs
        exact hx q hq (by rw [e1, this])
  have hni : es.findIdx? (fun e => e.key.isStr x) = none := by
    rw [Array.findIdx?_eq_none_iff]
    exact fun e he => hno e he
  have hrk : es.any (·.refKey) = false := by
    rw [Array.any_eq_false']
    intro e he
    obtain ⟨q, hq, hi⟩ := prs_mem hp e (Array.mem_toList_iff.2 he)
    rcases keyIs_shape hi with ⟨i, t, _, e2⟩ | ⟨y, t, _, e2⟩ <;> simp [DictEntry.refKey, e2]
  obtain ⟨c, od, dt, sl⟩ := o
  dsimp only at hd
  subst hd
  unfold nsSet strHash
  refine wpAny_bind (wpAny_bind (wpAny_askSetting (wpAny_pure ?_)))
  refine wpAny_bind (wpAny_mkText (wpAny_bind (wpAny_loadPart ho ?_)))
  have hq : aRefKeyMayBeTheName x es = false := by simp only [aRefKeyMayBeTheName_eq, aRefKeyMayBeTheNameByArray, hrk, Bool.and_false]
  show wpAny _ _ (if aRefKeyMayBeTheName x es = true then _ else _) _ _ _
  rw [if_neg (by rw [hq]; exact Bool.false_ne_true)]
  have ep1 : ∀ (hh : Int) (ky : Value), Obj.putName x hh ky u ⟨c, od, .dict es ep, sl⟩ = ⟨c, od, .dict (es.push ⟨hh, ky, u⟩) (ep + 1), sl⟩ := fun hh ky => by simp only [Obj.putName_eq, Obj.putNameByArray, hni]
  refine wpAny_updatePart ho ?_
  refine h _ ⟨_, _, ep + 1, (Heap.get?_update_self _ ho (by rw [ep1]; rfl)).trans (congrArg some (ep1 _ _)), hxd, rfl, ?_, ?_, ?_⟩ (fun b hb => Heap.get?_update_other _ _ (Ne.symm hb)) ?_
  · intro e he
    rcases Array.mem_push.1 he with he | rfl
    · exact hk e he
    · exact ⟨.inr x, keyIs_str x s.toks, rfl⟩
  · rw [Array.toList_push]
    exact prs_snoc hp (keyIs_str x s.toks) rfl
  · rw [List.map_append]
    refine List.nodup_append.2 ⟨hn, by simp, fun k hk' k2 hk2 e => ?_⟩
    obtain ⟨q, hq, rfl⟩ := List.mem_map.1 hk'
    rw [List.map_cons, List.map_nil, List.mem_singleton] at hk2
    exact hx q hq (e.trans hk2)
  · exact Heap.size_update _ _ _
/-- names and values, put in turn into a new dict -/
def kwFill (d : Addr) : List (Str × Value) → Sem Unit
  | [] => pure ()
  | p :: r => (nsSet d p.1 p.2 >>= fun _ => pure (ForInStep.yield PUnit.unit)) >>= fun (s : ForInStep PUnit) => match s with
    | .done b => pure b
    | .yield _ => kwFill d r
def kwK (ps : List (Str × Value)) : List (Key × Value) := ps.map fun p => (.inr p.1, p.2)
theorem kw_fill {P : Program} {w : World} {A : Around} {E : Value → Shared → Prop} {d : Addr} {Q : Unit → Shared → Prop} : ∀ (ps : List (Str × Value)) (kvs : List (Key × Value)) (s : Shared), s.heap.DictOf (mixKind P w) d kvs → (ps.map (·.1)).Nodup → (∀ p ∈ ps, ∀ q ∈ kvs, q.1 ≠ .inr p.1) →
    (∀ h' t', h'.DictOf (mixKind P w) d (kvs ++ kwK ps) → (∀ b, b ≠ d → h'.get? b = s.heap.get? b) → h'.objs.size = s.heap.objs.size → Q () { s with heap := h', toks := t' }) → wpAny (model P w) A (kwFill d ps) Q E s
  | [], kvs, s, dd, _, _, h => wpAny_pure (h s.heap s.toks (by rw [show kwK [] = [] from rfl, List.append_nil]; exact dd) (fun _ _ => rfl) rfl)
  | p :: r, kvs, s, dd, hn, hx, h => by
    rw [List.map_cons, List.nodup_cons] at hn
    refine wpAny_bind (wpAny_bind (ns_put dd (fun q hq => hx p List.mem_cons_self q hq) fun h1 d1 k1 z1 => wpAny_pure ?_))
    refine kw_fill r (kvs ++ [(.inr p.1, p.2)]) { s with heap := h1, toks := s.toks + 1 } d1 hn.2 (fun p' hp q hq => ?_) fun h2 t2 d2 k2 z2 => ?_
    · rcases List.mem_append.1 hq with hq | hq
      · exact hx p' (List.mem_cons_of_mem _ hp) q hq
      · rw [List.mem_singleton.1 hq]
        intro e
        exact hn.1 (List.mem_map.2 ⟨p', hp, (Sum.inr.inj e).symm⟩)
    · refine h h2 t2 (by rw [List.append_assoc] at d2; exact d2) (fun b hb => (k2 b hb).trans (k1 b hb)) (z2.trans z1)
def kwV (ks : List Str) (zs : List V) : List (Key × V) := (ks.zip zs).map fun p => (.inr p.1, p.2)
theorem kv_kw : ∀ {ks : List Str} {zs : List V} {ws : List Value}, Vals zs ws → KV (kwV ks zs) (kwK (ks.zip ws))
  | [], zs, ws, r => by rw [show kwV [] zs = [] from rfl, show kwK (([] : List Str).zip ws) = [] from rfl]; exact .nil
  | k :: ks, [], _, .nil => .nil
  | k :: ks, z :: zs, _, .cons a r => .cons ⟨rfl, a⟩ (kv_kw r)
/-- a function called with keywords -/
def FnK (P : Program) (w : World) (K : PySem.W.Frag) (mg : Str → Option Value) (base : Heap) (CX : CXT) (k : Nat) (f : Addr) (ks : List Str) (sp : List V → Sp) : Prop :=
  ∀ (A : Around) (outer : List Env) (s : Shared) (H : Hp) (us ws : List Value) (vs zs : List V) (Q : VK) (E : XK), Room k A → Env0 P w K mg base A outer s H → Vals vs us → Vals zs ws → sp zs vs H Q E → codeAny (model P w) A (.call (.ref f) ⟨us, ks.zip ws⟩) (CR CX outer P w H s Q E) s
def kwSpN (n : Nat) (ks : List Str) (sp : Sp) : List V → Sp := fun zs vs H Q E => vs.length = n ∧ zs.length = ks.length ∧ ∀ d, H d = none → sp (vs ++ [V.ref d]) (upd H d (.dK (kwV ks zs))) Q E
theorem env0_laidG {P : Program} {w : World} {K : PySem.W.Frag} {mg : Str → Option Value} {base : Heap} {A : Around} {outer : List Env} {s : Shared} {H : Hp} {u : HO} {h' : Heap} {t' : Nat} (e0 : Env0 P w K mg base A outer s H) (kp : ∀ b x, s.heap.get? b = some x → h'.get? b = some x) (hz : s.heap.objs.size ≤ h'.objs.size) (new : ObjOk P w (upd H s.heap.objs.size u) h' s.heap.objs.size u) :
    Env0 P w K mg base A outer { s with heap := h', toks := t' } (upd H s.heap.objs.size u) where
  frames := e0.frames
  mod := e0.mod
  bs := fun b x e => ⟨kp b x (e0.bs b x e).1, by rw [upd_ne (Nat.ne_of_lt (Heap.lt_size (e0.bs b x e).1))]; exact (e0.bs b x e).2⟩
  bsz := Nat.le_trans e0.bsz hz
  funs := Heap.FunFrames.of_keeps (fun b x e _ => ⟨x, kp b x e, rfl⟩) e0.funs
  frf := fun b hb => by
    obtain ⟨_, x, hx, _⟩ := e0.funs.mem hb
    rw [upd_ne (Nat.ne_of_lt (Heap.lt_size hx))]
    exact e0.frf b hb
  hok := e0.hok.laid kp (Nat.le_refl _) new
  bare := e0.bare
section
variable {CX : CXT} {P : Program} {w : World} {K : PySem.W.Frag} {mg : Str → Option Value} {base : Heap} {k : Nat} {f : Addr} {name qual : Str} {params : Arguments} {body : List Stmt} {scope : Scope} {dV kV doc pm cdv ct oc : Value} {an od : Option Addr}
  {osl : Array (Option Value)} {N ps ks : List Str} {sp : Sp}
theorem fn_kwN {pd : Str} (lk : K.lookup f = some ⟨oc, od, .func (PySem.W.fnOf name qual params body scope dV kV doc pm an cdv ct), osl⟩) (hcd : PySem.W.codeIn K cdv qual = true) (S : FnScope N (ps ++ [pd]) scope) (hCX : StX.CXUp CX) (hks : ks.Nodup) (hkz : ks.length ≤ 900)
    (bind : ∀ us ws : List Value, us.length = ps.length → ws.length = ks.length → bindArgs (PySem.W.fnOf name qual params body scope dV kV doc pm an cdv ct) ⟨us, ks.zip ws⟩ = ((alloc ({ cls := .type "dict", data := .dict #[] } : Obj) : Sem Addr) >>= fun d => kwFill d (ks.zip ws) >>= fun _ => pure (ps.zip us ++ [(pd, Value.ref d)])))
    (walk : ∀ (A : Around) (outer : List Env) (s : Shared) (H : Hp) (vs : List V) (Q : VK) (E : XK), Room k (A.deeper (envOfC qual scope s.heap.objs.size f cdv)) → sp vs H Q E →
      ∃ t, PSs (cxOf CX P w K mg base N qual scope f cdv A outer s H E) body t ∧ t { nx := fun _ H' => Q .non H', rt := Q } (start N vs) H) : FnK P w K mg base CX (k + 1) f ks (kwSpN ps.length ks sp) := by
  rintro A outer s H us ws vs zs Q E hr e0 r rz ⟨hl, hlz, hq⟩
  have hn : H s.heap.objs.size = Option.none := e0.hok.fresh (Nat.le_refl _)
  have hlu : us.length = ps.length := by rw [← r.length]; exact hl
  have hlw : ws.length = ks.length := by rw [← rz.length]; exact hlz
  have hfst : (ks.zip ws).map (·.1) = ks := by rw [← List.unzip_fst, List.unzip_zip hlw.symm]
  refine StX.run_bnd lk hcd S hr e0 (G := fun xs H2 => ∃ d, H d = Option.none ∧ xs = vs ++ [V.ref d] ∧ H2 = upd H d (.dK (kwV ks zs))) (fun A' Ex Q' h => ?_) (fun s2 H2 xs g hr' => ?_)
  · rw [bind us ws hlu hlw]
    refine wpAny_bind (wpAny_alloc (wpAny_bind ?_))
    refine kw_fill (ks.zip ws) [] _ (Heap.DictOf.new s.heap) (by rw [hfst]; exact hks) (fun _ _ _ z => nomatch z) fun h' t' dd kp sz => wpAny_pure ?_
    have kp2 : ∀ b x, s.heap.get? b = some x → h'.get? b = some x := fun b x e => (kp b (Nat.ne_of_lt (Heap.lt_size e))).trans (Heap.get?_push_of_some _ e)
    have sz2 : s.heap.objs.size ≤ h'.objs.size := by rw [sz, Heap.size_push]; exact Nat.le_succ _
    have hmz : (kwV ks zs).length ≤ 900 := by
      unfold kwV
      rw [List.length_map, List.length_zip]
      omega
    have new : ObjOk P w (upd H s.heap.objs.size (.dK (kwV ks zs))) h' s.heap.objs.size (.dK (kwV ks zs)) :=
      ⟨Nat.le_trans hmz (by decide), beq_eq_false_iff_ne.mpr (Ne.symm (Nat.ne_of_lt (StX.env0_big e0))), _, kv_kw rz, dd⟩
    have e1 := env0_laidG (t' := t') e0 kp2 sz2 new
    have un : Un (frs outer) [] H (upd H s.heap.objs.size (.dK (kwV ks zs))) s.heap h' := Un.laid kp2 (Nat.le_refl _) hn
    have z := h _ _ (vs ++ [V.ref s.heap.objs.size]) (us ++ [Value.ref s.heap.objs.size]) e1 un rfl (fun e s' => hCX outer s H _ _ E e s' un kp2 rfl) (r.append (.cons rfl .nil)) (by rw [List.length_append, List.length_append, hl] <;> rfl) ⟨_, hn, rfl, rfl⟩
    rw [List.zip_append hlu.symm] at z
    exact z
  · obtain ⟨d, hd, rfl, rfl⟩ := g
    exact walk A outer s2 _ _ Q E hr' (hq d hd)
end
theorem fun_kwN {P : Program} {w : World} {K : PySem.W.Frag} {mg : Str → Option Value} {base : Heap} {x qual : Str} {st : Stmt} {f : Addr} {fd : FuncData} {N ps : List Str} {pd : Str} {k : Nat} {sp : Sp} (ks : List Str) (hks : ks.Nodup) (hkz : ks.length ≤ 900) (F : Fun K x qual st f fd) (S : FnScope N (ps ++ [pd]) (defScope st))
    (bind : ∀ (kV doc pm : Value) (an : Option Addr) (cdv ct : Value) (us ws : List Value), us.length = ps.length → ws.length = ks.length → bindArgs (PySem.W.fnOf x qual (defArgs st) (defBody st) (defScope st) .none kV doc pm an cdv ct) ⟨us, ks.zip ws⟩ = ((alloc ({ cls := .type "dict", data := .dict #[] } : Obj) : Sem Addr) >>= fun d => kwFill d (ks.zip ws) >>= fun _ => pure (ps.zip us ++ [(pd, Value.ref d)])))
    (walk : ∀ (cdv : Value) (A : Around) (outer : List Env) (s : Shared) (H : Hp) (vs : List V) (Q : VK) (E : XK), Room k (A.deeper (envOfC qual (defScope st) s.heap.objs.size f cdv)) → sp vs H Q E →
      ∃ t, PSs (cxOf (L2.CX P w) P w K mg base N qual (defScope st) f cdv A outer s H E) (defBody st) t ∧ t { nx := fun _ H' => Q .non H', rt := Q } (start N vs) H) : FnK P w K mg base (L2.CX P w) (k + 1) f ks (kwSpN ps.length ks sp) := by
  obtain ⟨oc, od, kV, doc, pm, an, cdv, ct, osl, rfl, lk, hcd⟩ := F.ex
  exact fn_kwN lk hcd S StX.cxUp hks hkz (bind kV doc pm an cdv ct) fun A outer s H vs Q E hr hsp => walk cdv A outer s H vs Q E hr hsp
/-- C(k = v, ..) of a class whose __init__ gathers them -/
def tMakeN (C : Addr) (sp : List V → Sp) (E : XK) (tk : TA) : TE := fun σ H Q => tk σ H fun zs H1 => ∀ x dx, H1 x = none → H1 dx = none → dx ≠ x → sp zs [V.ref x] (upd (upd H1 dx (.own x)) x (.ins C dx [])) (fun v H2 => v = .non ∧ Q (.ref x) H2) E
theorem run_makeN {X : Cx} {CX : CXT} {k : Nat} {f C : Addr} {ks : List Str} {sp : List V → Sp} {E : XK} {ps : List (Addr × Obj)} {σ : L2.St} {H : Hp} {s : Shared} {Q : VK} {ws : List Value} {zs : List V} (M : Mk X.K C f) (F : FnK X.prog X.w X.K X.mg X.base CX k f ks sp) (hr : Room (k + 1) X.A) (hx : Passes CX X E)
    (I : Inv X ps σ H s) (rz : Vals zs ws) (h : ∀ x dx, H x = none → H dx = none → dx ≠ x → sp zs [V.ref x] (upd (upd H dx (.own x)) x (.ins C dx [])) (fun v H2 => v = .non ∧ Q (.ref x) H2) E) : wpAny (model X.prog X.w) X.A (call (.ref C) [] (ks.zip ws)) (EP X ps σ Q) X.xe s := by
  have q0 := h (s.heap.objs.size + 1) s.heap.objs.size (I.hok.fresh (Nat.le_succ _)) (I.hok.fresh (Nat.le_refl _)) (Nat.ne_of_lt (Nat.lt_succ_self _))
  have J := Inv.made (C := C) I
  have rx : Vals [V.ref (s.heap.objs.size + 1)] [Value.ref (s.heap.objs.size + 1)] := .cons rfl .nil
  refine wpAny_call (make_map (f := f) I.kIn M.makes M.init (beq_iff_eq.mp M.fn) (codeAny_mono (F _ X.stack _ _ [Value.ref (s.heap.objs.size + 1)] ws _ _ _ E (hr.make C [] (ks.zip ws)) (J.env0.make C [] (ks.zip ws)) rx rz q0) fun r s' hr' => ?_))
  match r, hr' with
  | .error e, hr' => exact hx ps σ _ _ e s' J hr'
  | .ok (.ret u), hr' =>
    obtain ⟨v, H', J2, rv, ev, qv⟩ := J.after hr'
    subst ev
    exact ⟨rv, ⟨V.ref (s.heap.objs.size + 1), H', J2, rfl, qv⟩⟩
  | .ok .next, hr' => exact hr'.elim
  | .ok .brk, hr' => exact hr'.elim
  | .ok .cont, hr' => exact hr'.elim
theorem pe_makeN {X : Cx} {CX : CXT} {k : Nat} {f C : Addr} {ks : List Str} {sp : List V → Sp} {E : XK} {x : Str} {p pos : Pos} {kws : List Keyword} {tk : TA} (M : Mk X.K C f) (F : FnK X.prog X.w X.K X.mg X.base CX k f ks sp) (hr : Room (k + 1) X.A) (hg : Gl X x) (hm : X.mg x = some (.ref C)) (hx : Passes CX X E) (hkw : PK X kws tk)
    (hall : (backToKw pos (keywordEach kws X.env)).all (·.1.isSome) = true := by rfl) (hks : (backToKw pos (keywordEach kws X.env)).filterMap (·.1) = ks := by rfl) (hdb : (x == ("__debug__" : Str)) = false := by decide)
    (hpl : ((backTo pos (starEach [] X.env)).any (·.1) || (backToKw pos (keywordEach kws X.env)).any (·.1.isNone)) = false := by rfl) : PE X (.Call (.Name x p) [] kws pos) (tMakeN C sp E tk) := by
  refine ⟨fun ps σ0 σ H Q I h => ?_⟩
  refine wpAny_Call_Name_kw (ld_glob I hg hm ?_ hdb)
  refine PySem.W.callWith_KW0 (h₀ := X.base) I.ok.mod.kin M.kp hall ?_ hpl
  refine thn (hkw.run pos ps σ0 σ H _ I h) fun ws s2 hw => ?_
  obtain ⟨zs, H2, I2, rz, q2⟩ := hw
  refine ⟨I2.kIn, ?_⟩
  rw [hks]
  exact run_makeN M F hr hx I2 rz q2
theorem r_makeN {C : Addr} {sp : List V → Sp} {E : XK} {tk : TA} {σ : L2.St} {H : Hp} {Q : VK} (q : tk σ H fun zs H1 => ∀ x dx, H1 x = none → H1 dx = none → dx ≠ x → sp zs [V.ref x] (upd (upd H1 dx (.own x)) x (.ins C dx [])) (fun v H2 => v = .non ∧ Q (.ref x) H2) E) : tMakeN C sp E tk σ H Q := q
end
local macro_rules | `(tactic| walk_at "v1") => `(tactic| with_reducible refine r_makeN ?_)

/-! bool(o) by an own __bool__, list(s) -/
section
open PyProof.Rows
theorem bool_any {prog : Program} {w : World} {A : Around} {E : Value → Shared → Prop} {s : Shared} {v : Value} {Q : Value → Shared → Prop} (h : wpAny (model prog w) A.in1.in1 (truthy v) (fun b s₁ => Q (.bool b) s₁) E s) : wpAny (model prog w) A (call (.type "bool") [v]) Q E s := by
  refine callType_codes (T := "bool") (Bi := Builtin.«object.__init__») (Q₁ := fun r s₁ => ∃ b, r = Value.bool b ∧ Q r s₁) PySem.F.called_bool (PySem.F.typeCall_bool_1 _) PySem.F.entry_object_init ?_ ?_
  · refine codeAny_of_tree ?_
    show wpAny _ A.in1.in1 (do checkBuiltinCall "bool.__new__" ⟨[.type "bool", v], []⟩; again (.builtin "bool.__new__" ⟨[.type "bool", v], []⟩)) _ _ s
    refine wpAny_bind (wpAny_of_eq (PySem.F.newCall_bool_1 _) (wpAny_pure ⟨plainId_quiet (by decide +kernel) _, codeAny_builtin PySem.F.entry_bool_new ?_⟩))
    rw [(Around.under_plainId (by decide +kernel) _)]
    unfold Builtin.«bool.__new__»
    refine wpAny_bind (wpAny_of_eq (a := true) (by kernel_rfl) ?_)
    refine (PySem.W.KFB.if_not rfl ?_)
    refine wpAny_bind (wpAny_of_eq (a := true) PySem.F.conv_sub_bool ?_)
    refine (PySem.W.KFB.if_not rfl ?_)
    refine wpAny_bind (wpAny_of_eq (a := [v]) rfl ?_)
    refine wpAny_bind (wpAny_mono h (fun b s' hr => ?_) fun _ _ y => y)
    exact wpAny_pure ⟨b, rfl, hr⟩
  · rintro obj s₁ ⟨b, rfl, hq⟩
    exact ⟨PySem.typeIs_bool _ _, PySem.F.args_object_init_2 _ _, object_init_meets PySem.F.called_bool.init.lookup PySem.F.called_bool.made (by decide) prog w A.in1 _ s₁ ⟨PySem.typeIs_bool _ _, rfl, hq⟩⟩
def rBoolOwn (C : Addr) (sp : Sp) (E : XK) : List V → Hp → VK → Prop := fun zs H Q => ∃ a dx fs, zs = [V.ref a] ∧ H a = some (.ins C dx fs) ∧ sp [V.ref a] H (fun z H' => ∃ b : Bool, z = .bl b ∧ Q (.bl b) H') E
theorem call_ownBool {X : Cx} {CX : CXT} {n : Nat} {f C : Addr} {sp : Sp} {E : XK} (hm : Meth X.K C (Str.ofString "__bool__") f) (F : FnR X.prog X.w X.K X.mg X.base CX n f sp) (hr : Room (n + 2) X.A) (hx : Passes CX X E) : CallR X (.type "bool") (rBoolOwn C sp E) := by
  intro ps σ0 σ H zs us Q I r h
  obtain ⟨a, dx, fs, rfl, ha, q⟩ := h
  obtain ⟨u, rfl, ru⟩ := r.one
  cases (show u = Value.ref a from ru)
  obtain ⟨ox, od, J⟩ := ins_inst I ha
  obtain ⟨m, hF⟩ := I.fr
  have hr2 : Room n X.A.in1.in1 := (Room.in1 (show Room (n + 1) X.A.in1 from hr.in1))
  refine bool_any (PySem.W.truthy_K hF I.ok.mod.kin J hm.at_ hm.fn (wpAny_mono (wpAny_call (SlX.run_at (us := [.ref a]) (ws := [.ref a]) F hr2 I.env0.in1.in1 hx I (.cons rfl .nil) q)) (fun w s' z => ?_) fun _ _ y => y))
  obtain ⟨z', H', I', rz, b, ez, qz⟩ := z
  subst ez
  cases (show w = Value.bool b from rz)
  exact ⟨.bl b, H', I', rfl, qz⟩
/-- bool(d), d a dict -/
def rBoolD : List V → Hp → VK → Prop := fun zs H Q => ∃ (a : Addr) (kvs : List (Key × V)), zs = [V.ref a] ∧ H a = some (.dK kvs) ∧ Q (.bl (!kvs.isEmpty)) H
theorem call_boolD {X : Cx} : CallR X (.type "bool") rBoolD := by
  intro ps σ0 σ H zs us Q I r h
  obtain ⟨a, kvs, rfl, ha, q⟩ := h
  obtain ⟨u, rfl, ru⟩ := r.one
  cases (show u = Value.ref a from ru)
  exact bool_any (d_truth I (.inl ha) fun s' I' => ⟨.bl _, H, I', rfl, q⟩)
theorem c_boolD {l : List Asn} {H : Hp} {i : Nat} {a : Addr} {m : List (Str × Int)} {Q : VK} (S : Sep l H) (hi : l[i]? = some (At a (.dK (mp m)))) (q : Q (.bl (!m.isEmpty)) H) : rBoolD [.ref a] H Q := by
  refine ⟨a, _, rfl, S.at hi, ?_⟩
  have e : (mp m).isEmpty = m.isEmpty := by cases m <;> rfl
  rw [e]; exact q
theorem c_ownBool {K : PySem.W.Frag} {l : List Asn} {H : Hp} {i : Nat} {p C : Addr} {fs : List (Str × V)} {sp : Sp} {E : XK} {Q : VK} (S : Sep l H) (hi : l[i]? = some (Ob p C fs)) (q : sp [V.ref p] H (fun z H' => ∃ b : Bool, z = .bl b ∧ Q (.bl b) H') E) : rBoolOwn C sp E [.ref p] H Q := by
  obtain ⟨dx, e⟩ := ob_at S hi
  exact ⟨p, dx, fs, rfl, e, q⟩
/-- list(s), s a text -/
def signs (x : Str) : List V := x.cps.toList.map fun c => V.str ⟨#[c]⟩
theorem signs_len (x : Str) : (signs x).length = x.cps.size := by unfold signs; rw [List.length_map, Array.length_toList]
theorem vals_signs {x : Str} {acc : Array Value} (h : ItemsOf (SignAt x) acc x.cps.size) : Vals (signs x) acc.toList := by
  have e : acc.toList.length = (signs x).length := by rw [Array.length_toList, signs_len]; exact h.1
  have k : signs x = (List.range acc.toList.length).map fun j => ((signs x)[j]?).getD .non := by
    refine List.ext_getElem? fun j => ?_
    rw [List.getElem?_map]
    by_cases hj : j < (signs x).length
    · rw [List.getElem?_range (by omega)]
      rw [Option.map_some, List.getElem?_eq_getElem hj]; rfl
    · rw [List.getElem?_eq_none (by omega), List.getElem?_eq_none (by rw [List.length_range]; omega)]; rfl
  rw [k]
  refine vals_of_get acc.toList _ fun j u hj => ?_
  obtain ⟨c, t, hc, rfl⟩ := h.2 j u (by rw [← hj, Array.getElem?_toList])
  have : (signs x)[j]? = some (V.str ⟨#[c]⟩) := by
    unfold signs
    rw [List.getElem?_map, Array.getElem?_toList, hc]; rfl
  rw [this]
  exact ⟨t, rfl⟩
def rListS : List V → Hp → VK → Prop := fun zs H Q => ∃ x : Str, zs = [.str x] ∧ x.cps.size ≤ 16777216 ∧ ∀ p, H p = none → Q (.ref p) (upd H p (.lst (signs x)))
theorem call_listS {X : Cx} (hc : X.calm = true) : CallR X (.type "list") rListS := by
  intro ps σ0 σ H zs us Q I r h
  obtain ⟨x, rfl, hz, q⟩ := h
  obtain ⟨u, rfl, t, rfl⟩ := r.one
  refine call_list_str (I.ok.hd hc) x t (fun h' tk acc c' hk e' hi => ?_) (by rw [sizeLine_eq]; omega)
  refine ⟨.ref σ0.heap.objs.size, upd H σ0.heap.objs.size (.lst (signs x)), I.laid hk (Nat.le_refl _) (show ObjOk X.prog X.w _ _ _ (.lst (signs x)) from ⟨?_, acc.toList, c', vals_signs hi, ?_⟩), rfl, q _ (I.hok.fresh (Nat.le_refl _))⟩
  · rw [signs_len, sizeLine_eq]; omega
  · rw [Array.toArray_toList]; exact e'
theorem c_listS {l : List Asn} {H : Hp} {x : Str} {Q : VK} (S : Sep l H) (hz : x.cps.size ≤ 16777216) (k : ∀ p H', Sep (At p (.lst (signs x)) :: l) H' → Q (.ref p) H') : rListS [.str x] H Q := ⟨x, rfl, hz, fun p hp => k p _ (S.new hp)⟩
theorem i_LTt {K : PySem.W.Frag} {H : Hp} {Q : VK} {l : List Asn} {p : Addr} {xs : List V} {e f : Nat} {q : Addr} (S : Sep l H) (hi : l[e]? = some (Tp p xs)) (hj : l[f]? = some (Tp q [.ty "list", .ty "tuple"])) (k : Q (.bl true) H) : gIsi K [.ref p, .ref q] H Q :=
  .inr ⟨.ref p, q, [.ty "list", .ty "tuple"], .type "tuple", [.type "list", .type "tuple"], true, rfl, S.tp hj, .cons (.ty _) (.cons (.ty _) .nil), .base (.tup (S.tp hi)), (by simp [PySem.W.kitAny, kit_ty k_tl, kit_ty k_tt]), k⟩
theorem mp_at {m : List (Str × Int)} {i : Nat} {k : Key} {v : V} (h : (mp m)[i]? = some (k, v)) : ∃ w n, m[i]? = some (w, n) ∧ k = Sum.inr w ∧ v = .int n := by
  unfold mp at h
  rw [List.getElem?_map] at h
  cases e : m[i]? with
  | none => rw [e] at h; cases h
  | some x => rw [e] at h; cases h; exact ⟨x.1, x.2, rfl, rfl, rfl⟩
/-- {.. for .. in d.items() ..}, d locked meanwhile -/
theorem dcI {σ : L2.St} {H : Hp} {g : TG} {te tk tv : TE} {tt : TT} {vs : List Nat} {Q : VK} {l : List Asn} {p : Addr} {e : Nat} {kvs : List (Key × V)} (S : Sep l H) (hi : l[e]? = some (At p (.dK kvs))) (Pv : Obj → Addr → Nat → Hp → Prop) (h0 : ∀ od D H', Sep (At D (.dK []) :: l.set e (At p (.frz od (.dK kvs)))) H' → Pv od D 0 H') (hl : ∀ od D i H, Pv od D i H → H p = some (.frz od (.dK kvs)))
    (hs : ∀ od D i k v T H H', kvs[i]? = some (k, v) → Pv od D i H → H T = none → H' = upd H T (.tup [kV k, v]) → DcT g tt tk tv vs σ (.ref T) D (Pv od D (i + 1)) H') (hd : ∀ od D H, Pv od D kvs.length H → Q (.ref D) (upd H p (.dK kvs))) (hv : ∀ H', te σ H' = fun Q => Q (.ref p) H') : tLockE (tDc (iItems te) g tt tk tv vs) σ H Q := by
  refine ⟨p, .dK kvs, S.at hi, trivial, fun od => ?_⟩
  have S1 := S.upd hi (o' := .frz od (.dK kvs)) (fun _ z => nomatch z)
  show te σ _ _
  rw [hv]
  refine ⟨p, od, kvs, rfl, upd_same, fun D hD => ⟨fun i m H2 => m = kvs.length - i ∧ i ≤ kvs.length ∧ Pv od D i H2, ⟨kvs.length, by simp, Nat.zero_le _, h0 od D _ (S1.new hD)⟩, ?_⟩⟩
  rintro i m H2 ⟨rfl, hz, q⟩
  have hq := hl od D i H2 q
  by_cases hlt : i < kvs.length
  · refine .inr ⟨⟨hq, hlt⟩, Pv od D (i + 1), fun H3 q3 => ⟨kvs.length - (i + 1), by omega, rfl, hlt, q3⟩, fun x H3 y => ?_⟩
    obtain ⟨T, k, v, ek, rfl, hn, rfl⟩ := y
    exact hs od D i k v T H2 _ ek q hn rfl
  · obtain rfl : i = kvs.length := by omega
    exact .inl ⟨⟨hq, Nat.le_refl _⟩, hq, hd od D H2 q⟩
end
local macro_rules | `(tactic| walk_at "v1") => `(tactic| (first
  | ((with_reducible refine' c_ownBool (by assumption) ?hi ?_); (case hi => walk_at "has"))
  | ((with_reducible refine' c_boolD (by assumption) ?hi ?_); (case hi => walk_at "has"))
  | ((with_reducible refine' c_listS (by assumption) ?hz ?_); (case hz => decide); intro _ _ _)))

/-! str(o) by an own __str__; == and != where the right one's class goes first -/
section
open PyProof.Rows
theorem str_any {prog : Program} {w : World} {A : Around} {E : Value → Shared → Prop} {s : Shared} {v : Value} {Q : Value → Shared → Prop} (h : wpAny (model prog w) A.in1.in1 (Builtin.Str.strOf v) (fun r s₁ => ∃ x t, r = Value.str x t ∧ Q r s₁) E s) : wpAny (model prog w) A (call (.type "str") [v]) Q E s := by
  refine callType_codes (T := "str") (Bi := Builtin.«object.__init__») (Q₁ := fun r s₁ => ∃ x t, r = Value.str x t ∧ Q r s₁) PySem.F.called_str (PySem.F.typeCall_str_1 _) PySem.F.entry_object_init ?_ ?_
  · refine codeAny_of_tree ?_
    show wpAny _ A.in1.in1 (do checkBuiltinCall "str.__new__" ⟨[.type "str", v], []⟩; again (.builtin "str.__new__" ⟨[.type "str", v], []⟩)) _ _ s
    refine wpAny_bind (wpAny_of_eq (PySem.F.newCall_str_1 _) (wpAny_pure ⟨plainId_quiet (by decide +kernel) _, codeAny_builtin PySem.F.entry_str_new ?_⟩))
    rw [(Around.under_plainId (by decide +kernel) _), str_new_tree v]
    refine wpAny_bind (wpAny_pure (wpAny_bind (wpAny_of_eq isSubtype_str_str ?_)))
    refine wpAny_bind (wpAny_mono h (fun r s' hr => ?_) fun _ _ y => y)
    obtain ⟨x, t, rfl, hq⟩ := hr
    exact wpAny_pure ⟨x, t, rfl, hq⟩
  · rintro obj s₁ ⟨x, t, rfl, hq⟩
    exact ⟨typeIs_str _ _ _, PySem.F.args_object_init_2 _ _, object_init_meets PySem.F.called_str.init.lookup PySem.F.called_str.made (by decide) prog w A.in1 _ s₁ ⟨typeIs_str _ _ _, rfl, hq⟩⟩
/-- what str(o), o an instance whose class has sp for __str__, asks -/
def rStrOwn (C : Addr) (sp : Sp) (E : XK) : List V → Hp → VK → Prop := fun zs H Q => ∃ a dx fs, zs = [V.ref a] ∧ H a = some (.ins C dx fs) ∧ sp [V.ref a] H (fun z H' => ∃ y : Str, z = .str y ∧ Q z H') E
theorem call_ownStr {X : Cx} {CX : CXT} {n : Nat} {f C : Addr} {sp : Sp} {E : XK} (hm : Meth X.K C (Str.ofString "__str__") f) (F : FnR X.prog X.w X.K X.mg X.base CX n f sp) (hr : Room (n + 2) X.A) (hx : Passes CX X E) : CallR X (.type "str") (rStrOwn C sp E) := by
  intro ps σ0 σ H zs us Q I r h
  obtain ⟨a, dx, fs, rfl, ha, q⟩ := h
  obtain ⟨u, rfl, ru⟩ := r.one
  cases (show u = Value.ref a from ru)
  obtain ⟨ox, od, J⟩ := ins_inst I ha
  have hr2 : Room n X.A.in1.in1 := (Room.in1 (show Room (n + 1) X.A.in1 from hr.in1))
  refine str_any ?_
  unfold Builtin.Str.strOf
  show wpAny _ _ (if false = true then _ else _) _ _ _
  rw [if_neg Bool.false_ne_true]
  refine wpAny_bind (wpAny_cRoomFor hr2.units0 ?_)
  refine wpAny_bind (m := callSpecial? (.ref a) (Str.ofString "__str__")) (PySem.W.special_fn I.kIn J hm.at_ (beq_iff_eq.mp hm.fn) (wpAny_mono (wpAny_call (SlX.run_at (us := [.ref a]) (ws := [.ref a]) F hr2 I.env0.in1.in1 hx I (.cons rfl .nil) q)) (fun w s' z => ?_) fun _ _ y => y))
  obtain ⟨z', H', I', rz, y, ez, qz⟩ := z
  subst ez
  obtain ⟨t, rfl⟩ := (show ∃ t, w = Value.str y t from rz)
  refine wpAny_bind (wpAny_of_eq (a := some y) rfl ?_)
  exact wpAny_pure ⟨y, t, rfl, .str y, H', I', ⟨t, rfl⟩, qz⟩
section
variable {X : Cx} {CX : CXT} {n : Nat} {f : Addr} {sp : Sp} {E : XK} {K : PySem.W.Frag}
/-- o == y, f the __eq__ of o's class: o's own goes first, or that of y, of a class below -/
def rEqF (K : PySem.W.Frag) (f : Addr) (sp : Sp) (E : XK) : R2 := fun x y H Q => ∃ a C dx fs t, x = V.ref a ∧ H a = some (.ins C dx fs) ∧ Meth K C (Str.ofString "__eq__") f ∧ TyX K H y t ∧
  ((PySem.W.notFirst K C t = true ∧ sp [x, y] H Q E) ∨ ∃ b D dy gs, y = V.ref b ∧ t = .ref D ∧ H b = some (.ins D dy gs) ∧ Meth K D (Str.ofString "__eq__") f ∧ D ≠ C ∧ PySem.W.subIn K (.ref D) (.ref C) = some true ∧ sp [y, x] H Q E)
theorem op_eqF (hK : X.K = K) (F : FnR X.prog X.w X.K X.mg X.base CX n f sp) (hr : Room n X.A) (hx : Passes CX X E) : OpR X (compareOp .Eq) (rEqF K f sp E) := by
  intro ps σ0 σ H x y v u Q I rx ry h
  subst hK
  obtain ⟨a, C, dx, fs, t, rfl, ha, hm, ht, h⟩ := h
  cases (show v = Value.ref a from rx)
  obtain ⟨ox, od, J⟩ := ins_inst I ha
  obtain ⟨m, hF⟩ := I.fr
  obtain ⟨P, KX, hP, _⟩ := kit_of I ry ht
  have XK := I.ok.mod.kin.keeps hF.keep
  have hb := KX.ty (model X.prog X.w) _ XK hP
  rcases h with ⟨hs, q⟩ | ⟨b, D, dy, gs, rfl, rfl, hb2, hm2, hne, hs, q⟩
  · show wpAny _ _ (richCompare .Eq (.ref a) u) _ _ _
    refine PySem.W.cmp_K (op := .Eq) (tb := t) hr.units0 hF I.ok.mod.kin J hb hs hm.at_ hm.fn ?_
    refine wpAny_mono (wpAny_call (run_fnR (us := [.ref a, u]) (vs := [.ref a, y]) F hr hx I (.cons rfl (.cons ry .nil)) q)) (fun w s' z => ?_) fun _ _ e => e
    obtain ⟨z', H', I', rz, qz⟩ := z
    exact SlX.cmpback rz ⟨z', H', I', rz, qz⟩
  · cases (show u = Value.ref b from ry)
    obtain ⟨oy, ody, Jy⟩ := ins_inst I hb2
    have one : wpAny (model X.prog X.w) X.A (tryCompare (.ref b) "__eq__" (.ref a)) (fun r s' => ∃ w, r = some w ∧ EP X ps σ Q w s') X.xe σ0 := by
      unfold tryCompare
      refine wpAny_bind (PySem.W.ifBound_K XK Jy hm2.at_ hm2.fn (wpAny_mono (wpAny_call (run_fnR (us := [.ref b, .ref a]) (vs := [.ref b, .ref a]) F hr hx I (.cons rfl (.cons rfl .nil)) q)) (fun w s' z => ?_) fun _ _ e => e))
      obtain ⟨z', H', I', rz, qz⟩ := z
      have e := SlX.cmpback (P := fun w s' => EP X ps σ Q w s') rz ⟨z', H', I', rz, qz⟩
      cases w <;> first | exact e.elim | exact wpAny_pure ⟨_, rfl, e⟩
    show wpAny _ _ (richCompare .Eq (.ref a) (.ref b)) _ _ _
    unfold richCompare
    simp only [oneThing_ref]
    refine wpAny_holding (wpAny_bind (wpAny_cRoomFor hr.units0 ?_))
    refine wpAny_bind (J.type.here (wpAny_bind (hb.here ?_)))
    have hd : ((Value.ref C : Value) != .ref D) = true := by simp [bne_iff_ne]; exact fun z => hne z.symm
    rw [if_pos hd]
    refine wpAny_bind ((PySem.W.looks_subIn XK hs).here ?_)
    rw [if_pos rfl]
    refine wpAny_bind (m := tryCompare (.ref b) _ (.ref a)) (wpAny_mono one (fun r s' z => ?_) fun _ _ e => e)
    obtain ⟨w, rfl, ep⟩ := z
    exact wpAny_bind (wpAny_rule (wpAny_pure ep))
structure NeC (K : PySem.W.Frag) (C : Addr) : Prop where
  ne : PySem.W.findIn K (.ref C) "__ne__" = some (some (.builtin "object.__ne__"))
  ob : PySem.W.mroIn K C (.type "object") = some true
/-- o.__ne__(y), by an own __eq__ -/
theorem one_ne {C a : Addr} {u : Value} {y : V} {ox : Obj} {od : Option Obj} {ps : List (Addr × Obj)} {σ : L2.St} {H : Hp} {s : Shared} {Q : VK} (I : Inv X ps σ H s) (J : PySem.W.InstAt s.heap a ox C od) (N : NeC X.K C) (hm : Meth X.K C (Str.ofString "__eq__") f) (F : FnR X.prog X.w X.K X.mg X.base CX n f sp) (hr : Room (n + 1) X.A) (hu : X.A.units + 64 < cLine) (hx : Passes CX X E) (ry : RelV y u)
    (q : sp [.ref a, y] H (fun z H' => ∃ c : Bool, z = .bl c ∧ Q (.bl (!c)) H') E) : wpAny (model X.prog X.w) X.A (tryCompare (.ref a) "__ne__" u) (fun r s' => ∃ w, r = some w ∧ EP X ps σ Q w s') X.xe s := by
  obtain ⟨m, hF⟩ := I.fr
  have XK := I.ok.mod.kin.keeps hF.keep
  have entry : wpAny (model X.prog X.w) X.A.in1 (Builtin.«object.__ne__» ⟨[.ref a, u], []⟩) (fun r s' => ∃ w, r = .done (.ret w) ∧ (w ≠ .notImplemented ∧ EP X ps σ Q w s')) X.xe s := by
    unfold Builtin.«object.__ne__»
    repeat (first
      | with_reducible refine wpAny_cRoomFor (show X.A.in1.units < cLine by show X.A.units + 1 < cLine; omega) ?_
      | (refine wpAny_bind (m := callSpecialIfBound? (.ref a) (Str.ofString "__eq__") [u]) (PySem.W.ifBound_K XK J hm.at_ hm.fn
          (wpAny_mono (wpAny_call (SlX.run_at (us := [.ref a, u]) (ws := [.ref a, y]) F (show Room n X.A.in1 from Room.in1 hr) I.env0.in1 hx I (.cons rfl (.cons ry .nil)) q)) (fun w s' z => by
            obtain ⟨z', H', I', rz, c, ez, qz⟩ := z
            subst ez
            cases (show w = Value.bool c from rz)
            repeat (first | exact ⟨_, rfl, nofun, .bl (!c), H', I', rfl, qz⟩ | exact wpAny_pure ⟨_, rfl, nofun, .bl (!c), H', I', rfl, qz⟩ | (refine wpAny_bind (m := truthy (.bool _)) (wpAny_truthy_bool ?_)) | wp_step)) fun _ _ e => e)))
      | wp_step)
  unfold tryCompare
  refine wpAny_bind (ifBound_objNe XK J N.ne ?_)
  refine wpAny_call (codeAny_call_builtin PySem.F.cmp_object.ne.plain PySem.F.cmpEntry_ne (PySem.W.check_slot PySem.F.cmpKind_ne PySem.F.cmpSplit_ne (J.type.andThen (PySem.W.looks_mroIn XK N.ob)) (PySem.F.cmpArgs_ne _ _) (wpAny_mono entry (fun r s' z => ?_) fun _ _ e => e)))
  obtain ⟨w, rfl, hw, ep⟩ := z
  cases w <;> first | exact (hw rfl).elim | exact wpAny_pure ⟨_, rfl, ep⟩
def rNeF (K : PySem.W.Frag) (f : Addr) (sp : Sp) (E : XK) : R2 := fun x y H Q => ∃ a C dx fs t, x = V.ref a ∧ H a = some (.ins C dx fs) ∧ Meth K C (Str.ofString "__eq__") f ∧ NeC K C ∧ TyX K H y t ∧
  ((PySem.W.notFirst K C t = true ∧ sp [x, y] H (fun z H' => ∃ c : Bool, z = .bl c ∧ Q (.bl (!c)) H') E) ∨ ∃ b D dy gs, y = V.ref b ∧ t = .ref D ∧ H b = some (.ins D dy gs) ∧ Meth K D (Str.ofString "__eq__") f ∧ NeC K D ∧ D ≠ C ∧ PySem.W.subIn K (.ref D) (.ref C) = some true ∧ sp [y, x] H (fun z H' => ∃ c : Bool, z = .bl c ∧ Q (.bl (!c)) H') E)
theorem op_neF (hK : X.K = K) (F : FnR X.prog X.w X.K X.mg X.base CX n f sp) (hr : Room (n + 1) X.A) (hu : X.A.units + 64 < cLine) (hx : Passes CX X E) : OpR X (compareOp .NotEq) (rNeF K f sp E) := by
  intro ps σ0 σ H x y v u Q I rx ry h
  subst hK
  obtain ⟨a, C, dx, fs, t, rfl, ha, hm, hN, ht, h⟩ := h
  cases (show v = Value.ref a from rx)
  obtain ⟨ox, od, J⟩ := ins_inst I ha
  obtain ⟨m, hF⟩ := I.fr
  obtain ⟨P, KX, hP, _⟩ := kit_of I ry ht
  have XK := I.ok.mod.kin.keeps hF.keep
  have hb := KX.ty (model X.prog X.w) _ XK hP
  show wpAny _ _ (richCompare .NotEq (.ref a) u) _ _ _
  unfold richCompare
  simp only [oneThing_ref]
  refine wpAny_holding (wpAny_bind (wpAny_cRoomFor (by omega) ?_))
  refine wpAny_bind (J.type.here (wpAny_bind (hb.here ?_)))
  rcases h with ⟨hs, q⟩ | ⟨b, D, dy, gs, rfl, rfl, hb2, hm2, hN2, hne, hs, q⟩
  · have one := one_ne I J hN hm F hr hu hx ry q
    split
    · rename_i c
      have e : PySem.W.subIn X.K t (.ref C) = some false := by
        rcases Bool.or_eq_true_iff.mp hs with e | e
        · rw [beq_iff_eq.mp e] at c; simp at c
        · exact beq_iff_eq.mp e
      refine wpAny_bind ((PySem.W.looks_subIn XK e).here ?_)
      simp only [Bool.false_eq_true, if_false]
      refine wpAny_bind (m := tryCompare (.ref a) _ u) (wpAny_mono one (fun r s' z => ?_) fun _ _ e => e)
      obtain ⟨w, rfl, ep⟩ := z
      exact wpAny_pure ep
    · refine wpAny_bind (wpAny_pure ?_)
      simp only [Bool.false_eq_true, if_false]
      refine wpAny_bind (m := tryCompare (.ref a) _ u) (wpAny_mono one (fun r s' z => ?_) fun _ _ e => e)
      obtain ⟨w, rfl, ep⟩ := z
      exact wpAny_pure ep
  · cases (show u = Value.ref b from ry)
    obtain ⟨oy, ody, Jy⟩ := ins_inst I hb2
    have one := one_ne (u := .ref a) (y := .ref a) I Jy hN2 hm2 F hr hu hx rfl q
    have hd : ((Value.ref C : Value) != .ref D) = true := by simp [bne_iff_ne]; exact fun z => hne z.symm
    rw [if_pos hd]
    refine wpAny_bind ((PySem.W.looks_subIn XK hs).here ?_)
    rw [if_pos rfl]
    refine wpAny_bind (m := tryCompare (.ref b) _ (.ref a)) (wpAny_mono one (fun r s' z => ?_) fun _ _ e => e)
    obtain ⟨w, rfl, ep⟩ := z
    exact wpAny_bind (wpAny_rule (wpAny_pure ep))
end

end
/-! own errors with one field, over any built-in base -/
section
open PyProof.Rows
structure OexB (K : PySem.W.Frag) (C : Addr) : Prop where
  ex : ∃ (B newId initId : String) (bm : List Value), ExcBaseFacts B newId initId bm ∧ (∀ v : Value, refuseLoop v "__setattr__" bm = pure ()) ∧ bm.contains (.type "object") = true ∧
    ∃ nm q N bs sn sub ab col dd k0 k1 k2 k3 k5, K.lookup C = some (excClassObj nm q C N bs bm true sn sub ab col dd k0 k1 k2 k3 k5 newId)
  sa : PySem.W.findIn K (.ref C) "__setattr__" = some (some (.builtin "object.__setattr__"))
  exC : PySem.W.subIn K (.ref C) (.type "BaseException") = some true
  tyC : PySem.W.typeIn K (.ref C) = some (.type "type")
  kC : PySem.W.keepIn K (.ref C) = true
theorem pass_ZD : ∀ v : Value, refuseLoop v "__setattr__" [.type "ZeroDivisionError", .type "ArithmeticError", .type "Exception", .type "BaseException", .type "object"] = pure () := fun v => by kernel_rfl
theorem pass_LE : ∀ v : Value, refuseLoop v "__setattr__" [.type "LookupError", .type "Exception", .type "BaseException", .type "object"] = pure () := fun v => by kernel_rfl
theorem pass_RE : ∀ v : Value, refuseLoop v "__setattr__" [.type "RuntimeError", .type "Exception", .type "BaseException", .type "object"] = pure () := fun v => by kernel_rfl
section
open Builtin Builtin.ObjectAttr PySem.W PySem.HandSPX
theorem exb_set {prog : Program} {w : World} {A : Around} {R : Result → Shared → Prop} {h0 : Heap} {g0 : Array GenState} {d0 : Drawn} {t0 : Nat} {o0 : OsState} {K : Frag} {fld : Str} {tk : Tok} {u : Value} {e C : Addr} {fv : Array Value} {cd : ClassData} {bm : List Value}
    (KX : K.In h0) (he : h0.get? e = some { cls := .ref C, data := .fields fv }) (hcd : clsIn K C = some cd) (hm : cd.mro = .ref C :: bm) (pass : ∀ v : Value, refuseLoop v "__setattr__" bm = pure ()) (hob : bm.contains (.type "object") = true) (hh : cd.hasDict = true) (hno : findIn K (.ref C) fld = some none)
    (k : ∀ h1 t1 dx, (∀ b o, b ≠ e → h0.get? b = some o → h1.get? b = some o) → h0.objs.size ≤ dx → dx ≠ e → h1.get? e = some { cls := .ref C, dict := some dx, data := .fields fv } →
      h1.Ns1 dx (fun y => if y = fld then some u else none) → R (.ok (.ret .none)) ⟨h1, g0, d0, t1, o0⟩) :
    codeAny (model prog w) A (.call (.builtin "object.__setattr__") ⟨[.ref e, .str fld tk, u], []⟩) R ⟨h0, g0, d0, t0, o0⟩ := by
  have J : InstAt h0 e { cls := .ref C, data := .fields fv } C none := ⟨he, rfl, rfl, trivial⟩
  have SO := PySem.F.store_object
  have hob2 : cd.mro.contains (.type "object") = true := by rw [hm, List.contains_cons, hob, Bool.or_true]
  have ne2 : cd.mro.isEmpty = false := by rw [hm]; rfl
  have hes : e ≠ h0.objs.size := Nat.ne_of_lt (Heap.lt_size he)
  have subE : Looks (model prog w) h0 (isInstance (.ref e) (.type "object")) true := J.type.andThen (looks_mroIn KX (by unfold mroIn; rw [hcd, Option.bind_some, if_neg (by rw [ne2]; decide), hob2]))
  refine codeAny_call_builtin SO.slot.plain SO.entry (@check_slot (model prog w) _ _ ⟨h0, g0, d0, t0, o0⟩ "object.__setattr__" "object" "__setattr__" (.ref e) [.str fld tk, u] [] _ SO.kind SO.split subE (SO.args (.ref e) (.str fld tk) u) ?_)
  have mroE : Looks (model prog w) h0 (mroOf (.ref C)) cd.mro := (looks_clsIn KX hcd).andThen .now
  have takE : Looks (model prog w) h0 (storeTaker? none) none := .now
  have clsE : Looks (model prog w) h0 (classData C) cd := looks_clsIn KX hcd
  rw [osa_eq, refuse_eq]
  refine wpAny_bind (wpAny_bind (J.type.at (wpAny_bind (mroE.at ?_))))
  rw [hm, refuseLoop_ref, pass]
  refine wpAny_pure (wpAny_bind (J.type.at (wpAny_bind ((looks_findIn KX hno).at (wpAny_bind (takE.at ?_))))))
  show wpAny _ _ (storeInOwnDict (.ref e) (.ref C) (.str fld tk) fld u false) _ _ _
  obtain ⟨c1, c2, c3, c4, c5, c6, c7, c8, c9, c10, c11⟩ := cd
  dsimp only at hh
  subst hh
  unfold storeInOwnDict; unfold ownDictForStores
  repeat (first | with_reducible refine store_in_new ?_ ?_ | with_reducible refine wpAny_loadPart_at he ?_ | with_reducible refine clsE.at ?_ | wp_step)
  · exact ⟨_, #[], _, (Heap.get?_update_ne _ _ _ _ hes.symm).trans (Heap.get?_push_at rfl rfl), rfl, fun e he => absurd he (by simp), fun _ => rfl⟩
  · intro h1 t1 hn1 hs1
    have he1 : (h0.push { cls := .type "dict", data := .dict #[] }).get? e = some { cls := .ref C, data := .fields fv } := Heap.get?_push_of_some _ he
    refine k h1 t1 h0.objs.size (fun b o hb ho => ?_) (Nat.le_refl _) hes.symm ?_ hn1
    · exact (hs1.2 b (Nat.ne_of_lt (Heap.lt_size ho))).trans ((Heap.get?_update_ne _ _ _ _ hb).trans (Heap.get?_push_of_some _ ho))
    · exact (hs1.2 e hes).trans (Heap.get?_update_self _ he1 rfl)
end
section
variable {X : Cx} {ps : List (Addr × Obj)} {σ : L2.St} {H : Hp} {s : Shared} {a C : Addr} {f : Str} {y : V} {u : Value} {Q : Unit → Shared → Prop} {E : Value → Shared → Prop} {A : Around}
/-- self.f = y of such an error, its only field -/
theorem exb_put (T : OexB X.K C) (I : Inv X ps σ H s) (e : H a = some (exo a C none)) (hno : PySem.W.findIn X.K (.ref C) f = some none) (ry : RelV y u)
    (h : ∀ dx s', H dx = none → dx ≠ a → Inv X ps σ (upd (upd H dx (exd dx [(f, y)])) a (exo a C (some dx))) s' → Q () s') : wpAny (model X.prog X.w) A (setAttr (.ref a) f u) Q E s := by
  obtain ⟨B, n1, n2, bm, FB, pass, hob, nm, q, N, bs, sn, sub, ab, col, dd, k0, k1, k2, k3, k5, hC⟩ := T.ex
  have hcl : PySem.W.clsIn X.K C = some { name := nm, bases := bs, mro := .ref C :: bm, ns := N, qualname := q, hasDict := true, slotNames := sn, subclasses := sub, abstract := ab, collection := col, hasDel := false } := by
    unfold PySem.W.clsIn; rw [hC]
  obtain ⟨tt, ho⟩ := exo_at I.hok e
  obtain ⟨h0, g0, d0, t0, o0⟩ := s
  refine PySem.W.set_plain I.kIn (ox := { cls := .ref C, dict := none, data := .fields #[.ref tt, .none, .none, .none, .bool false, .none] }) (od := none) ⟨ho, rfl, rfl, trivial⟩ T.sa ?_
  refine exb_set I.kIn ho hcl rfl pass hob rfl hno (fun h1 tk1 dx kp dn dne hx hn => ?_)
  have fr : H dx = none := I.hok.fresh dn
  have nd : ∀ {b : Addr} {o : Obj}, h0.get? b = some o → b ≠ dx := fun {b o} z => Nat.ne_of_lt (Nat.lt_of_lt_of_le (Heap.lt_size z) dn)
  have na : ∀ {b : Addr}, H b = none → b ≠ a := fun {b} n z => by rw [z, e] at n; cases n
  have U : Un X.fs [] H (upd (upd H dx (exd dx [(f, y)])) a (exo a C (some dx))) h0 h1 := {
    keep := fun b o z n _ _ => kp b o (na n) z
    slot := fun b o z n _ _ => ⟨o.slots, kp b o (na n) z⟩
    free := fun b o z n _ => by rw [upd_ne (na n), upd_ne (nd z)]; exact n
    there := fun b o z _ => by
      by_cases hb : b = a
      · exact ⟨_, by rw [hb]; exact hx⟩
      · exact ⟨o, kp b o hb z⟩
    tups := fun b xs z => by rw [upd_ne (at_ne e z exo_tup), upd_ne (ne_of_none z fr)]; exact z
    frzs := fun b o v z => by rw [upd_ne (at_ne e z exo_frz), upd_ne (ne_of_none z fr)]; exact z
    tbls := fun b ps z => ⟨#[], by rw [upd_ne (at_ne e z exo_tbl), upd_ne (ne_of_none z fr), z]; simp⟩ }
  refine h dx _ fr dne (I.un (t' := tk1) U fun b o z => ?_)
  by_cases hb : b = a
  · subst hb
    rw [upd_same] at z
    cases z
    exact exo_ok hx
  · rw [upd_ne hb] at z
    by_cases hd : b = dx
    · subst hd
      rw [upd_same] at z
      cases z
      exact exd_ok hn (relO_put (fs := []) ry fun g => True.intro)
    · rw [upd_ne hd] at z
      exact (I.hok b o z).stay (fun c v hc w => kp c v (by
          rcases hc with hc | hc
          · rw [hc]; exact hb
          · exact at_ne e hc exo_own) w)
        (fun c hc => by rw [upd_ne (at_ne e hc exo_own), upd_ne (ne_of_none hc fr)]; exact hc) (fun c xs hc => by rw [upd_ne (at_ne e hc exo_tup), upd_ne (ne_of_none hc fr)]; exact hc)
end
def tOstB (K : PySem.W.Frag) (f : Str) (to te : TE) : TS := fun D σ H => te σ H fun y H1 => to σ H1 fun x H2 => ∃ a C : Addr, x = .ref a ∧ OexB K C ∧ PySem.W.findIn K (.ref C) f = some none ∧ H2 a = some (exo a C none) ∧ ∀ dx, H2 dx = none → dx ≠ a → D.nx σ (upd (upd H2 dx (exd dx [(f, y)])) a (exo a C (some dx)))
theorem ps_gOstB {X : Cx} {K : PySem.W.Frag} {o e : Expr} {f : Str} {to te : TE} {p' pos : Pos} (hK : X.K = K) (ho : PE X o to) (he : PE X e te) (hs : swapsWith e (some (.Attribute o f p')) pos.line X.env = pure false := by rfl) : PS X (.Assign [.Attribute o f p'] e pos) (tOstB K f to te) := by
  subst hK
  refine ⟨fun ps s0 σ H D I h => ?_⟩
  refine plainObj_wpAny_Assign_Attribute (thn (he.run ps s0 σ H _ I h) fun v s1 hv => thn (ho.run ps s1 σ hv.choose_spec.choose _ hv.choose_spec.choose_spec.1 hv.choose_spec.choose_spec.2.2) fun u s2 hu => ?_) hs
  obtain ⟨x, H2, I2, r2, a, C, ex, T, hno, ea, q⟩ := hu
  subst ex
  obtain rfl : u = Value.ref a := r2
  exact exb_put T I2 ea hno hv.choose_spec.choose_spec.2.1 fun dx s' n ne J => ⟨σ, _, J, q dx n ne⟩
theorem r_ostB {K : PySem.W.Frag} {f : Str} {to te : TE} {σ : L2.St} {H : Hp} {nx bk ct : L2.St → Hp → Prop} {rt : VK} (q : te σ H fun y H1 => to σ H1 fun x H2 => ∃ a C : Addr, x = .ref a ∧ OexB K C ∧ PySem.W.findIn K (.ref C) f = some none ∧ H2 a = some (exo a C none) ∧ ∀ dx, H2 dx = none → dx ≠ a → nx σ (upd (upd H2 dx (exd dx [(f, y)])) a (exo a C (some dx)))) : tOstB K f to te ⟨nx, rt, bk, ct⟩ σ H := q
/-- __init__ of such an error -/
def sp_exb (K : PySem.W.Frag) (f : Str) : Sp := fun vs H Q _ => ∃ (a C : Addr) (x : V), vs = [.ref a, x] ∧ OexB K C ∧ PySem.W.findIn K (.ref C) f = some none ∧ H a = some (exo a C none) ∧
  ∀ dx, H dx = none → dx ≠ a → Q .non (upd (upd H dx (exd dx [(f, x)])) a (exo a C (some dx)))
theorem pmk_exb {X : Cx} {CX : CXT} {x : Str} {C fI : Addr} {k : Nat} {fd : FuncData} {ns : List Str} {sp : Sp} {e : Expr} {es : List Expr} {ta : TA} {p pos : Pos} (T : OexB X.K C) (iC : PySem.W.findIn X.K (.ref C) "__init__" = some (some (.ref fI))) (tI : PySem.W.typeIn X.K (.ref fI) = some (.type "function"))
    (F1 : FnOk X.prog X.w X.K X.mg X.base CX k fI fd ns sp) (hr : Room (k + 1) X.A) (hb : Binds X.K fd ns []) (hx : Passes CX X (fun _ _ _ => False)) (hg : Gl X x) (hm : X.mg x = some (.ref C)) (ha : PA X (e :: es) ta)
    (hdb : (x == ("__debug__" : Str)) = false := by decide) (he : starEach (e :: es) X.env = (false, eval e X.env) :: starEach es X.env := by rfl) (hpl : (backTo pos (starEach es X.env)).any (·.1) = false := by rfl) : PMk X (.Call (.Name x p) (e :: es) [] pos) (tMkO C sp [] ta) := by
  intro ps s0 σ H Q I h
  obtain ⟨B, n1, n2, bm, FB, pass, hob, nm, q, N, bs, sn, sub, ab, col, dd, k0, k1, k2, k3, k5, hC⟩ := T.ex
  refine wpAny_Call_Name_kw (ld_glob I hg hm ?_ hdb)
  refine PySem.W.callWith_K (h₀ := X.base) I.ok.mod.kin T.kC (thn (ha.run pos ps s0 σ H _ I h) fun us s1 hu => ⟨hu.choose_spec.choose_spec.1.kIn, ?_⟩) he hpl
  obtain ⟨vs, H1, I1, r1, hz, q1⟩ := hu
  show wpAny _ _ (call (.ref C) us) _ _ _
  obtain ⟨h0, g0, d0, t0, o0⟩ := s1
  have lz : h0.objs.size ≤ h0.objs.size + 1 := Nat.le_succ _
  have hn : H1 (h0.objs.size + 1) = none := I1.hok.fresh lz
  have hq := q1 (h0.objs.size + 1) hn
  rw [List.append_nil] at hq
  have kk : ∀ b o, h0.get? b = some o → ((h0.push (PySem.W.kdv_tup us)).push (PySem.HandSPX.excO C h0.objs.size)).get? b = some o := fun b o z => Heap.get?_push_of_some _ (Heap.get?_push_of_some _ z)
  have hget : ((h0.push (PySem.W.kdv_tup us)).push (PySem.HandSPX.excO C h0.objs.size)).get? (h0.objs.size + 1) = some (PySem.HandSPX.excO C h0.objs.size) := by heap_get
  have I2 : Inv X ps σ (upd H1 (h0.objs.size + 1) (exo (h0.objs.size + 1) C none)) ⟨(h0.push (PySem.W.kdv_tup us)).push (PySem.HandSPX.excO C h0.objs.size), g0, d0, t0, o0⟩ :=
    I1.laid (t' := t0) (a := h0.objs.size + 1) (o := exo (h0.objs.size + 1) C none) (h' := (h0.push (PySem.W.kdv_tup us)).push (PySem.HandSPX.excO C h0.objs.size)) kk lz (exo_ok hget)
  have r2 : Vals (V.ref (h0.objs.size + 1) :: vs) (Value.ref (h0.objs.size + 1) :: us) := .cons rfl r1
  have hl : (Value.ref (h0.objs.size + 1) :: us).length = ns.length := by
    have z := r2.length
    rw [F1.len _ _ _ _ hq] at z
    exact z.symm
  have hus : us.length ≤ sizeLine := by
    rw [← Paired.length r1, sizeLine_eq]; omega
  have hb2 := hb ⟨(h0.push (PySem.W.kdv_tup us)).push (PySem.HandSPX.excO C h0.objs.size), g0, d0, t0, o0⟩ (Value.ref (h0.objs.size + 1) :: us) I2.kIn (by rw [List.append_nil]; exact hl)
  rw [List.append_nil] at hb2
  refine wpAny_call (PySem.HandSPX.call_own FB (fun _ => rfl) (I1.kIn _ _ hC) (PySem.W.looks_findIn I1.kIn iC) (fun self => PySem.W.bind_fn I1.kIn self tI) hus
    (codeAny_mono (F1.run _ X.stack _ _ ⟨Value.ref (h0.objs.size + 1) :: us, []⟩ (Value.ref (h0.objs.size + 1) :: us) _ _ (fun _ _ _ => False) (hr.make C us []) (I2.env0.make C us []) hb2 r2 hq) fun r s' hq' => ?_))
  match r, hq' with
  | .error er, hq' => exact hx ps σ _ _ er s' I2 hq'
  | .ok (.ret u), hq' =>
    obtain ⟨v, H2, os2, bare2, un2, hok2, rv, ev, d, fs, ea, ed, hd1, q2⟩ := hq'
    subst ev
    obtain ⟨h2, g2, d2, t2, os'⟩ := s'
    exact ⟨rv, mk_end (raises_own T.exC T.tyC) I1 lz kk un2 hok2 os2 bare2 ea ed hd1 q2⟩
  | .ok .next, hq' => exact hq'.elim
  | .ok .brk, hq' => exact hq'.elim
  | .ok .cont, hq' => exact hq'.elim
theorem mk_exb {K : PySem.W.Frag} {l : List Asn} {H : Hp} {C : Addr} {f : Str} {x : V} {Q : XK} (S : Sep l H) (T : OexB K C) (hno : PySem.W.findIn K (.ref C) f = some none) (k : ∀ d H', Sep (At d (.xd [(f, x)]) :: l) H' → Q (.ref C) (some d) H') : gMkO C (sp_exb K f) [] [x] H Q := by
  unfold gMkO
  refine ⟨by show 1 ≤ 1000; decide, fun a ha => ⟨a, C, x, rfl, T, hno, upd_same, fun dx hdx hne => ⟨rfl, dx, [(f, x)], upd_same, by rw [upd_ne hne]; exact upd_same, ?_, ?_⟩⟩⟩
  · rw [upd_ne hne] at hdx; exact hdx
  · have hd1 : H dx = none := by rw [upd_ne hne] at hdx; exact hdx
    refine k dx _ (S.ext1 (fun b o e => ?_) hd1 upd_same)
    have hb : b ≠ dx := fun z => by rw [z, hd1] at e; cases e
    have hba : b ≠ a := fun z => by rw [z, ha] at e; cases e
    rw [upd_ne hb, del_ne hba, upd_ne hba, upd_ne hb, upd_ne hba]
    exact e
/-- a test that is a value's truth -/
def tTrR (r : V → Hp → (Bool → Hp → Prop) → Prop) (ta : TE) : TT := fun σ H Q => ta σ H fun x H1 => r x H1 Q
theorem pt_truthR {X : Cx} {a : Expr} {ta : TE} {r : V → Hp → (Bool → Hp → Prop) → Prop} (ha : PE X a ta) (hr : TruR X r) (he : ∀ whole, isTrue a X.env whole = (do let v ← whole; standAt a.pos; holding [v] (truthy v))) : PT X a (tTrR r ta) := by
  refine ⟨fun ps s0 σ H Q I h => isTrue_plain (thn (ha.run ps s0 σ H _ I h) fun v s1 hv => ?_) (he _)⟩
  obtain ⟨x, H1, I1, r1, q1⟩ := hv
  exact hr ps s1 σ H1 x v Q I1 r1 q1
theorem r_trR {σ : L2.St} {H : Hp} {ta : TE} {r : V → Hp → (Bool → Hp → Prop) → Prop} {Q : Bool → Hp → Prop} (q : ta σ H fun x H1 => r x H1 Q) : tTrR r ta σ H Q := q
/-- a call within a try: its wish may speak of the slots -/
theorem run_fnS {X : Cx} {CX : CXT} {k : Nat} {f : Addr} {sp : Sp} {E : XK} {Q : VK} {us : List Value} {vs : List V} {ps : List (Addr × Obj)} {σ : L2.St} {H : Hp} {s : Shared} (F : FnR X.prog X.w X.K X.mg X.base CX k f sp) (hr : Room k X.A) (hx : PassesAt CX X σ E) (I : Inv X ps σ H s) (r : Vals vs us) (h : sp vs H Q E) :
    codeAny (model X.prog X.w) X.A (.call (.ref f) ⟨us, []⟩) (fun r s' => match r with | .ok (.ret v) => EP X ps σ Q v s' | .ok _ => False | .error e => X.xe e s') s := by
  refine codeAny_mono (F X.A X.stack s H us vs Q E hr I.env0 r h) fun r s' hq => ?_
  match r, hq with
  | .error e, hq => exact hx ps H s e s' I hq
  | .ok (.ret u), hq => exact I.after hq
  | .ok .next, hq => exact hq.elim
  | .ok .brk, hq => exact hq.elim
  | .ok .cont, hq => exact hq.elim
/-- a op b, own, within a try -/
def tOpS (C : Addr) (sp : Sp) (E : L2.St → XK) (ta tb : TE) : TE := fun σ H Q => ta σ H fun x H1 => tb σ H1 fun y H2 => rBinOwn C sp (E σ) x y H2 Q
theorem pe_opS {X : Cx} {CX : CXT} {n : Nat} {f C : Addr} {sp : Sp} {E : L2.St → XK} {op : Operator} {a b : Expr} {ta tb : TE} {pos : Pos} (hm : Meth X.K C (PySem.dunder op.info.2) f) (hs : PySem.W.selfFirst X.K C = true) (F : FnR X.prog X.w X.K X.mg X.base CX n f sp) (hr : Room n X.A) (hx : ∀ σ, PassesAt CX X σ (E σ)) (ha : PE X a ta) (hb : PE X b tb) : PE X (.BinOp a op b pos) (tOpS C sp E ta tb) := by
  refine ⟨fun ps s0 σ H Q I h => wpAny_BinOp (binT ha hb I h fun v u s2 x y H2 I2 rx ry q => ?_)⟩
  obtain ⟨p, dx, fs, p2, dy, gs, rfl, rfl, h1, h2, q⟩ := q
  cases (show v = Value.ref p from rx)
  cases (show u = Value.ref p2 from ry)
  obtain ⟨ox, od, J⟩ := ins_inst I2 h1
  obtain ⟨oy, ody, J2⟩ := ins_inst I2 h2
  obtain ⟨m, hF⟩ := I2.fr
  refine PySem.W.binop_K hF I2.ok.mod.kin J J2.type hs hm.at_ hm.fn ?_
  refine wpAny_mono (wpAny_call (run_fnS (us := [.ref p, .ref p2]) (vs := [.ref p, .ref p2]) F hr (hx σ) I2 (.cons rfl (.cons rfl .nil)) q)) (fun w s' z => ?_) fun _ _ y => y
  obtain ⟨z', H', I', rz, qz⟩ := z
  exact SlX.cmpback rz ⟨z', H', I', rz, qz⟩
theorem r_opS {C : Addr} {sp : Sp} {E : L2.St → XK} {ta tb : TE} {σ : L2.St} {H : Hp} {Q : VK} (q : ta σ H fun x H1 => tb σ H1 fun y H2 => rBinOwn C sp (E σ) x y H2 Q) : tOpS C sp E ta tb σ H Q := q
end
local macro_rules | `(tactic| walk_at "v1") => `(tactic| (first
  | with_reducible refine r_trR ?_
  | with_reducible refine r_opS ?_))
local macro_rules | `(tactic| walk_at "v1") => `(tactic| with_reducible refine r_ostB ?_)

/-! methods of built-in values within a try -/
section
open PyProof.Rows
theorem pe_gBm {X : Cx} {K : PySem.W.Frag} {o e : Expr} {es : List Expr} {to : TE} {t : TA} {name : Str} {apos cpos : Pos} {T id : String} {r : V → List V → Hp → VK → Prop} (hK : X.K = K) (pa : PlainAttrs T) (slot : Slot T name id) (hty : typeOf (.builtin id) = pure (.type "method_descriptor")) (hm : MtR X id r) (ho : PE X o to) (ha : PA X (e :: es) t)
    (hbase : attributeBase o name X.env (eval o X.env) = eval o X.env := by rfl)
    (hfew : ((backTo cpos (starEach (e :: es) X.env)).all (fun x => !x.1) && (backToKw cpos (keywordEach [] X.env)).all (fun x => x.1.isSome)
      && decide ((e :: es).length + ([] : List Keyword).length + (if ([] : List Keyword).isEmpty then 0 else 1) < 30)) = true := by rfl)
    (hline : (apos.endLine == cpos.line) = true := by rfl) (hs : starEach (e :: es) X.env = (false, eval e X.env) :: starEach es X.env := by rfl) (hplain : (backTo cpos (starEach es X.env)).any (·.1) = false := by rfl) :
    PE X (.Call (.Attribute o name apos) (e :: es) [] cpos) (tBM K T r to t) := by
  subst hK
  exact pe_bm pa slot hty hm ho ha hbase hfew hline hs hplain
theorem pe_gBm0 {X : Cx} {K : PySem.W.Frag} {o : Expr} {to : TE} {name : Str} {apos cpos : Pos} {T id : String} {r : V → List V → Hp → VK → Prop} (hK : X.K = K) (pa : PlainAttrs T) (slot : Slot T name id) (hty : typeOf (.builtin id) = pure (.type "method_descriptor")) (hm : MtR X id r) (ho : PE X o to)
    (hbase : attributeBase o name X.env (eval o X.env) = eval o X.env := by rfl) (hline : (apos.endLine == cpos.line) = true := by rfl) : PE X (.Call (.Attribute o name apos) [] [] cpos) (tBM0 K T r to) := by
  subst hK
  exact pe_bm0 pa slot hty hm ho hbase hline
/-- not e as a value, by the truth of an own object -/
def tNotR (r : V → Hp → (Bool → Hp → Prop) → Prop) (ta : TE) : TE := fun σ H Q => ta σ H fun x H1 => r x H1 fun b H2 => Q (.bl (!b)) H2
theorem pe_notR {X : Cx} {a : Expr} {ta : TE} {pos : Pos} {r : V → Hp → (Bool → Hp → Prop) → Prop} (ha : PE X a ta) (hr : TruR X r) : PE X (.UnaryOp .Not a pos) (tNotR r ta) := by
  refine ⟨fun pins s σ H Q I h => ?_⟩
  refine UnaryOp_ (thn (ha.run pins s σ H _ I h) fun v s1 ⟨x, H1, I1, r1, q1⟩ => ?_)
  exact not_of (thn (hr pins s1 σ H1 x v (fun c H2 => Q (.bl (!c)) H2) I1 r1 q1) fun c s2 ⟨H2, I2, q2⟩ => ⟨.bl (!c), H2, I2, rfl, q2⟩)
theorem r_notR {σ : L2.St} {H : Hp} {ta : TE} {r : V → Hp → (Bool → Hp → Prop) → Prop} {Q : VK} (q : ta σ H fun x H1 => r x H1 fun b H2 => Q (.bl (!b)) H2) : tNotR r ta σ H Q := q
end
local macro_rules | `(tactic| walk_at "v1") => `(tactic| with_reducible refine r_notR ?_)

/-! texts split at a sign, every other item of a list, zip of a list and a tuple -/
section
open PyProof.Rows
/-! ### x.split(c) by its parts -/
def jl (c : Nat) : List (List Nat) → List Nat
  | [] => []
  | [a] => a
  | a :: b :: l => a ++ c :: jl c (b :: l)
theorem app_inj {c : Nat} : ∀ {a b : List Nat} {r s : List Nat}, c ∉ a → c ∉ b → a ++ c :: r = b ++ c :: s → a = b ∧ r = s
  | [], [], r, s, _, _, h => ⟨rfl, (List.cons.inj h).2⟩
  | [], y :: b, r, s, _, hb, h => (hb ((List.cons.inj h).1 ▸ List.mem_cons_self)).elim
  | x :: a, [], r, s, ha, _, h => (ha ((List.cons.inj h).1 ▸ List.mem_cons_self)).elim
  | x :: a, y :: b, r, s, ha, hb, h => by
    have h1 := List.cons.inj h
    have h2 := app_inj (a := a) (b := b) (fun z => ha (List.mem_cons_of_mem _ z)) (fun z => hb (List.mem_cons_of_mem _ z)) h1.2
    exact ⟨by rw [h1.1, h2.1], h2.2⟩
theorem jl_inj {c : Nat} : ∀ {xs ys : List (List Nat)}, xs ≠ [] → ys ≠ [] → (∀ a ∈ xs, c ∉ a) → (∀ b ∈ ys, c ∉ b) → jl c xs = jl c ys → xs = ys
  | [], _, hx, _, _, _, _ => (hx rfl).elim
  | _, [], _, hy, _, _, _ => (hy rfl).elim
  | [a], [b], _, _, _, _, h => by rw [show a = b from h]
  | [a], b :: b' :: ys, _, _, ha, _, h => by
    have h' : a = b ++ c :: jl c (b' :: ys) := h
    exact (ha a List.mem_cons_self (by rw [h']; simp)).elim
  | a :: a' :: xs, [b], _, _, _, hb, h => by
    have h' : a ++ c :: jl c (a' :: xs) = b := h
    exact (hb b List.mem_cons_self (by rw [← h']; simp)).elim
  | a :: a' :: xs, b :: b' :: ys, _, _, ha, hb, h => by
    have h' : a ++ c :: jl c (a' :: xs) = b ++ c :: jl c (b' :: ys) := h
    have h1 := app_inj (ha a List.mem_cons_self) (hb b List.mem_cons_self) h'
    have h2 := jl_inj (xs := a' :: xs) (ys := b' :: ys) (by simp) (by simp) (fun x hx => ha x (List.mem_cons_of_mem _ hx)) (fun x hx => hb x (List.mem_cons_of_mem _ hx)) h1.2
    rw [h1.1, h2]
theorem cps_app (x y : Str) : (x ++ y).cps.toList = x.cps.toList ++ y.cps.toList := Array.toList_append
theorem join_jl {c : Nat} : ∀ ts : List Str, (Str.join ⟨#[c]⟩ ts).cps.toList = jl c (ts.map fun t => t.cps.toList)
  | [] => rfl
  | [t] => rfl
  | t :: u :: l => by
    show (t ++ (⟨#[c]⟩ : Str) ++ Str.join ⟨#[c]⟩ (u :: l)).cps.toList = _
    rw [cps_app, cps_app, join_jl (u :: l)]
    show t.cps.toList ++ [c] ++ _ = t.cps.toList ++ c :: _
    rw [List.append_assoc]; rfl
theorem split_nn (x y : Str) : Txt.split x y ≠ [] := by
  unfold Txt.split
  split
  · simp
  · split
    · simp
    · unfold Builtin.Str.partsBetween
      simp only []
      cases Builtin.Str.occurrences x y 0 x.length (x.length + 1) <;> simp
theorem str_eq_of {x y : Str} (h : x.cps.toList = y.cps.toList) : x = y := by
  obtain ⟨⟨a⟩⟩ := x; obtain ⟨⟨b⟩⟩ := y
  rw [show a = b from h]
theorem map_cps_inj : ∀ {xs ys : List Str}, xs.map (fun t => t.cps.toList) = ys.map (fun t => t.cps.toList) → xs = ys
  | [], [], _ => rfl
  | [], y :: ys, h => by cases h
  | x :: xs, [], h => by cases h
  | x :: xs, y :: ys, h => by
    have h1 := List.cons.inj h
    rw [str_eq_of h1.1, map_cps_inj h1.2]
/-- x is these parts, c in none of them -/
theorem split_is {x : Str} {ts : List Str} {c : Nat} (h : Str.join ⟨#[c]⟩ ts = x) (hn : ts ≠ []) (hf : ∀ p ∈ ts, c ∉ p.cps.toList) : Txt.split x ⟨#[c]⟩ = ts := by
  have h1 := StrLaws.join_split x ⟨#[c]⟩
  have h2 : jl c ((Txt.split x ⟨#[c]⟩).map fun t => t.cps.toList) = jl c (ts.map fun t => t.cps.toList) := by
    rw [← join_jl, ← join_jl, h1, h]
  refine map_cps_inj (jl_inj (by simpa using split_nn x ⟨#[c]⟩) (by simpa using hn) ?_ ?_ h2)
  · intro a ha
    obtain ⟨t, ht, rfl⟩ := List.mem_map.1 ha
    exact StrLaws.split_free x c t ht
  · intro a ha
    obtain ⟨t, ht, rfl⟩ := List.mem_map.1 ha
    exact hf t ht
def gSplit : V → List V → Hp → VK → Prop := fun x xs H Q => ∃ a b, x = .str a ∧ xs = [.str b] ∧ (b.length == 0) = false ∧ a.length + 2 ≤ sizeLine ∧ rNewStrs (Txt.split a b) H Q
theorem mt_gSplit {X : Cx} : MtR X "str.split" gSplit := mt_split
theorem m_split {l : List Asn} {H : Hp} {Q : VK} {a sep : Str} {c : Nat} (S : Sep l H) (hz : a.length ≤ 3000) (hs : sep = ⟨#[c]⟩) (k : ∀ D H', Sep (At D (.lst ((Txt.split a ⟨#[c]⟩).map V.str)) :: l) H' → Q (.ref D) H') : gSplit (.str a) [.str sep] H Q := by
  subst hs
  exact ⟨a, ⟨#[c]⟩, rfl, rfl, rfl, Nat.le_trans (Nat.add_le_add_right hz 2) (by decide), fun D hD => k D _ (S.new hD)⟩
theorem jl_mem {c : Nat} : ∀ {xs : List (List Nat)} {a : List Nat}, a ∈ xs → a.length ≤ (jl c xs).length
  | [x], a, h => by rw [List.mem_singleton.1 h]; exact Nat.le_refl _
  | x :: y :: l, a, h => by
    show _ ≤ (x ++ c :: jl c (y :: l)).length
    rw [List.length_append, List.length_cons]
    rcases List.mem_cons.1 h with rfl | h
    · omega
    · have := jl_mem (c := c) h
      omega
theorem jl_cnt {c : Nat} : ∀ xs : List (List Nat), xs.length ≤ (jl c xs).length + 1
  | [] => Nat.zero_le _
  | [x] => by simp
  | x :: y :: l => by
    have h := jl_cnt (c := c) (y :: l)
    show _ ≤ (x ++ c :: jl c (y :: l)).length + 1
    simp only [List.length_append, List.length_cons] at h ⊢
    omega
theorem split_jl (x : Str) (c : Nat) : jl c ((Txt.split x ⟨#[c]⟩).map fun t => t.cps.toList) = x.cps.toList := by rw [← join_jl, StrLaws.join_split]
theorem split_mem {x p : Str} {c : Nat} (h : p ∈ Txt.split x ⟨#[c]⟩) : p.length ≤ x.length := by
  have h1 := jl_mem (c := c) (List.mem_map.2 ⟨p, h, rfl⟩ : p.cps.toList ∈ (Txt.split x ⟨#[c]⟩).map fun t => t.cps.toList)
  rw [split_jl] at h1
  simpa [Str.length] using h1
theorem split_cnt (x : Str) (c : Nat) : (Txt.split x ⟨#[c]⟩).length ≤ x.length + 1 := by
  have h1 := jl_cnt (c := c) ((Txt.split x ⟨#[c]⟩).map fun t => t.cps.toList)
  rw [split_jl, List.length_map] at h1
  simpa [Str.length] using h1
/-- int(text), text of a digit -/
def gIntS : List V → Hp → VK → Prop := fun xs H Q => ∃ a n, xs = [.str a] ∧ PySem.intText? a = some n ∧ a.length ≤ 640 ∧ Q (.int n) H
theorem call_gIntS {X : Cx} : CallR X (.type "int") gIntS := call_int_str
def dig (n : Nat) : Str := ⟨#[48 + n]⟩
theorem dig_int : ∀ n : Fin 10, PySem.intText? (dig n) = some ((n : Nat) : Int) := by decide +kernel
theorem dig_of : ∀ n : Fin 10, Str.ofString (toString ((n : Nat) : Int)) = dig n := by decide +kernel
theorem c_intS {H : Hp} {Q : VK} {n : Nat} (h : n < 10) (q : Q (.int (n : Nat)) H) : gIntS [.str (dig n)] H Q := ⟨dig n, _, rfl, dig_int ⟨n, h⟩, by show 1 ≤ 640; decide, q⟩
/-! ### every other item -/
def ev {α : Type} : List α → List α
  | [] => []
  | [x] => [x]
  | x :: _ :: l => x :: ev l
theorem ev_len {α : Type} : ∀ l : List α, (ev l).length = (l.length + 1) / 2
  | [] => by simp [ev]
  | [x] => by simp [ev]
  | x :: y :: l => by
    show (ev l).length + 1 = _
    rw [ev_len l]
    show _ = (l.length + 1 + 1 + 1) / 2
    omega
theorem ev_map {α β : Type} (f : α → β) : ∀ l : List α, ev (l.map f) = (ev l).map f
  | [] => rfl
  | [x] => rfl
  | x :: y :: l => by
    show f x :: ev (l.map f) = f x :: (ev l).map f
    rw [ev_map f l]
theorem ev_mem {α : Type} : ∀ {l : List α} {x : α}, x ∈ ev l → x ∈ l
  | [x], y, h => h
  | x :: y :: l, z, h => by
    rcases List.mem_cons.1 h with rfl | h
    · exact List.mem_cons_self
    · exact List.mem_cons_of_mem _ (List.mem_cons_of_mem _ (ev_mem h))
theorem ev_vals : ∀ {xs : List V} {vs : List Value}, Vals xs vs → Vals (ev xs) (ev vs)
  | _, _, .nil => .nil
  | _, _, .cons r .nil => .cons r .nil
  | _, _, .cons r (.cons _ h) => .cons r (ev_vals h)
theorem ev_get {α : Type} : ∀ (l : List α) (k : Nat), (ev l)[k]? = l[2 * k]?
  | [], k => by simp [ev]
  | [x], 0 => rfl
  | [x], k + 1 => by
    rw [List.getElem?_eq_none (by simp [ev]), List.getElem?_eq_none (by simp; omega)]
  | x :: y :: l, 0 => rfl
  | x :: y :: l, k + 1 => by
    show (x :: ev l)[k + 1]? = _
    rw [List.getElem?_cons_succ, ev_get l k, show 2 * (k + 1) = 2 * k + 1 + 1 by omega, List.getElem?_cons_succ, List.getElem?_cons_succ]
theorem fm_get {α β : Type} {f : β → Option α} : ∀ {ks : List β} {l : List α}, ks.length = l.length → (∀ (i : Nat) (k : β), ks[i]? = some k → f k = l[i]?) → ks.filterMap f = l
  | [], [], _, _ => rfl
  | [], y :: l, h, _ => by simp at h
  | k :: ks, [], h, _ => by simp at h
  | k :: ks, y :: l, h, g => by
    have h1 : f k = some y := g 0 k rfl
    rw [List.filterMap_cons, h1]
    exact congrArg (y :: ·) (fm_get (by simpa using h) fun i k' e => by simpa using g (i + 1) k' (by simpa using e))
theorem sliceRange_two (a n : Nat) (h : a ≤ n) : sliceRange (a : Int) (n : Int) 2 = (List.range ((n - a + 1) / 2)).map fun k => a + 2 * k := by
  unfold sliceRange
  by_cases c : a < n
  · have e : (((n : Int) - (a : Int) + 2 - 1) / 2).toNat = (n - a + 1) / 2 := by omega
    have c' : (a : Int) < (n : Int) := by omega
    simp only [show (2 : Int) > 0 by decide, if_true, c', e]
    apply List.map_congr_left
    intro k _
    omega
  · have e : a = n := by omega
    subst e
    simp
theorem pick_two (its : List Value) (a : Nat) (ha : a ≤ its.length) : (((sliceRange (a : Int) (its.length : Int) 2).filterMap (its.toArray[·]?)).toArray : Array Value) = (ev (its.drop a)).toArray := by
  congr 1
  rw [sliceRange_two a _ ha]
  refine fm_get ?_ fun i k e => ?_
  · rw [List.length_map, List.length_range, ev_len, List.length_drop]
  · rw [List.getElem?_map] at e
    by_cases c : i < (its.length - a + 1) / 2
    · rw [List.getElem?_range c] at e
      cases e
      rw [ev_get, List.getElem?_drop]
      simp
    · rw [List.getElem?_eq_none (by simpa using Nat.le_of_not_lt c)] at e
      cases e
theorem pick_ev0 (its : List Value) : slicePick its.toArray none none (some 2) = (ev its).toArray := by
  have h := pick_two its 0 (Nat.zero_le _)
  rw [List.drop_zero] at h
  rw [← h]
  unfold slicePick sliceBounds
  simp
theorem pick_ev1 (its : List Value) : slicePick its.toArray (some 1) none (some 2) = (ev (its.drop 1)).toArray := by
  by_cases c : 1 ≤ its.length
  · have h := pick_two its 1 c
    rw [← h]
    unfold slicePick sliceBounds
    simp
    have e : min (1 : Int) (its.length : Int) = 1 := by omega
    rw [e]
    rfl
  · have e : its = [] := List.length_eq_zero_iff.1 (by omega)
    subst e
    decide +kernel
def evFrom (lo : Option Int) (xs : List V) : List V := match lo with | none => ev xs | some _ => ev (xs.drop 1)
def gSlEv (K : PySem.W.Frag) (x : V) (lo : Option Int) (H2 : Hp) (Q : VK) : Prop := (lo = none ∨ lo = some 1) ∧ ∃ a xs, x = .ref a ∧ SqL K H2 a xs ∧ ∀ p, H2 p = none → Q (.ref p) (upd H2 p (.lst (evFrom lo xs)))
def tSlEv (K : PySem.W.Frag) (te : TE) (tl : TO) : TE := fun σ H Q => te σ H fun x H1 => tl σ H1 fun lo H2 => gSlEv K x lo H2 Q
theorem pe_sliceEv {X : Cx} {K : PySem.W.Frag} {e : Expr} {lo : Option Expr} {te : TE} {tl : TO} {k : Nat} {p1 p3 pos : Pos} (hK : X.K = K) (he : PE X e te) (hl : PO X lo tl) : PE X (.Subscript e (.Slice lo none (some (.Constant (.int 2) k p1)) p3) pos) (tSlEv K te tl) := by
  subst hK
  refine ⟨fun pins s σ H Q I h => Subscript_ (thn (he.run pins s σ H _ I h) fun v s1 z => ?_)⟩
  obtain ⟨x, H1, I1, r1, q1⟩ := z
  refine wpAny_Slice (thn (hl.run pins s1 σ H1 _ I1 q1) fun vl s2 z => ?_)
  obtain ⟨o, H2, I2, pl, ho, a, xs, rfl, hx, q⟩ := z
  cases (show v = Value.ref a from r1)
  refine thn ((po_none (X := X)).run pins s2 σ H2 (fun o H3 => o = none ∧ H3 = H2) I2 ⟨rfl, rfl⟩) fun vu s3 z => ?_
  obtain ⟨u, H3, I3, pu, rfl, rfl⟩ := z
  have two : PO X (some (.Constant (.int 2) k p1)) (tPart (tC (.int 2))) := po_some pe_int
  refine thn (two.run pins s3 σ H3 (fun o H4 => o = some 2 ∧ H4 = H3) I3 ⟨2, rfl, rfl, rfl⟩) fun vs s4 z => ?_
  obtain ⟨o4, H4, I4, ps, rfl, rfl⟩ := z
  have I5 : Inv X pins σ H4 { s4 with heap := s4.heap.push { cls := .type "slice", data := .fields #[vl, vu, vs] } } := I4.kept (t' := s4.toks) fun b ob q => Heap.get?_push_of_some _ q
  obtain ⟨its, r, ht, hz⟩ := I5.list hx
  have hlen := r.length
  show wpAny (model X.prog X.w) X.A (subscriptTail e (.Slice lo none (some (.Constant (.int 2) k p1)) p3) (.ref a) (.ref s4.heap.objs.size)) (EP X pins σ Q) X.xe _
  refine tail_any (ops := [.ref a, .ref s4.heap.objs.size]) ht.isList.typeIs (PySem.slot_list_getitem.lookup) ?_ (by with_unfolding_all rfl)
  refine wpAny_getItem_list_slice ht.isList (Heap.IsSliceOf.new _ vl vu vs) pl pu ps (by decide) ?_ (by rw [List.size_toArray]; omega)
  have fin : ∀ (ys : List V) (us : List Value), Vals ys us → ys.length ≤ xs.length → (∀ p, H4 p = none → Q (.ref p) (upd H4 p (.lst ys))) → EP X pins σ Q (.ref (s4.heap.push { cls := .type "slice", data := .fields #[vl, vu, vs] }).objs.size) { s4 with heap := (s4.heap.push { cls := .type "slice", data := .fields #[vl, vu, vs] }).push { cls := .type "list", data := .seq us.toArray } } := by
    intro ys us hv hle k
    exact ⟨.ref _, _, I5.laid (t' := s4.toks) (o := .lst ys) (fun b ob q => Heap.get?_push_of_some _ q) (Nat.le_refl _) ⟨Nat.le_trans hle hz, _, 0, hv, Heap.get?_push_size _ rfl⟩, rfl, k _ (I5.hok.fresh (Nat.le_refl _))⟩
  rcases ho with rfl | rfl
  · rw [pick_ev0]
    exact fin _ _ (ev_vals r) (by rw [ev_len]; omega) q
  · rw [pick_ev1]
    exact fin _ _ (ev_vals (r.drop 1)) (by rw [ev_len, List.length_drop]; omega) q
/-! ### zip of a list and a tuple -/
def ItzM (K : PySem.W.Frag) (a b : Addr) : L2.It :=
  ⟨fun i H => ∃ xs ys, SqL K H a xs ∧ SqT K H b ys ∧ i < xs.length ∧ i < ys.length,
   fun i H v H' => ∃ T x y, v = .ref T ∧ H T = none ∧ H' = upd H T (.tup [x, y]) ∧ (∀ xs, SqL K H a xs → xs[i]? = some x) ∧ (∀ ys, SqT K H b ys → ys[i]? = some y),
   fun i H => ∃ xs ys, SqL K H a xs ∧ SqT K H b ys ∧ i ≤ xs.length ∧ i ≤ ys.length ∧ (i = xs.length ∨ i = ys.length)⟩
def ZmAt (a b z TI TO i1 i2 : Addr) (i : Nat) (h : Heap) : Prop := IsZip h z TI TO .none ∧ IsTupOf2 h TI (.ref i1) (.ref i2) ∧ (∃ x y, IsTupOf2 h TO x y) ∧ h.IsListIter i1 a i ∧ h.IsTupleIter i2 b i
theorem turn_zipM {P : Program} {w : World} {K : PySem.W.Frag} {tg : Expr} {elts : List Expr} {kk : Nat} {tpos : Pos} {a b z TI TO i1 i2 : Addr} (S : ZipSep2 z TI TO i1 i2 [i1, a] [i2, b]) (n1 : a ≠ i1) (n2 : b ≠ i2) (htg : tg = .Tuple elts kk tpos) :
    Turn P w K tg (ItzM K a b) [z, TI, TO, i1, i2] z (ZmAt a b z TI TO i1 i2) := by
  subst htg
  have cells : ∀ {c : Addr}, c ∈ [z, TI, TO, i1, i2] → c = z ∨ c = TI ∨ c = TO ∨ c = i1 ∨ c = i2 := fun h => by simpa using h
  refine ⟨by simp, ?_, ?_, ?_, ?_, fun A i s Q E st h => wpAny_pyIter_zip st.1 h⟩
  · rintro i h ⟨hz, hTI, ⟨x, y, hTO⟩, ⟨o1, e1, _, d1⟩, o2, e2, _, d2⟩ c hc
    rcases cells hc with rfl | rfl | rfl | rfl | rfl
    · exact ⟨_, hz, nofun⟩
    · exact ⟨_, hTI, nofun⟩
    · exact ⟨_, hTO, nofun⟩
    · exact ⟨o1, e1, fun v => by rw [d1]; nofun⟩
    · exact ⟨o2, e2, fun v => by rw [d2]; nofun⟩
  · rintro i h h' ⟨hz, hTI, ⟨x, y, hTO⟩, t1, t2⟩ k
    exact ⟨k _ (by simp) _ hz, k _ (by simp) _ hTI, ⟨x, y, k _ (by simp) _ hTO⟩, t1.at fun o => k i1 (by simp) o, t2.at fun o => k i2 (by simp) o⟩
  · intro X hP hw hK hc i pins s σ H E I hf st hg
    subst hP hw hK
    obtain ⟨hz, hTI, ⟨x0, y0, hTO⟩, t1, t2⟩ := st
    obtain ⟨xs, ys, hx, hy, lx, ly⟩ := hg
    obtain ⟨its, rv, p1, _⟩ := I.list hx
    obtain ⟨jts, rw', p2, _⟩ := I.tuple hy
    have len1 : its.toArray.size = xs.length := by rw [List.size_toArray]; exact rv.length.symm
    have len2 : jts.toArray.size = ys.length := by rw [List.size_toArray]; exact rw'.length.symm
    have hdl : X.A.in1.handled = none := I.ok.hd hc
    have zl : z < s.heap.objs.size := Heap.lt_size hz
    refine wpAny_pyNext_zipD2_item S (Draws.list hdl i1 a n1 its.toArray) (Draws.tuple hdl i2 b n2 jts.toArray) hz hTI hTO ⟨t1, p1.isList⟩ ⟨t2, p2⟩ (by rw [len1]; exact lx) (by rw [len2]; exact ly) ?_
    intro u1 u2 h' tk g1 g2 z' TO' u1' u2' hT hsz hk
    refine ⟨_, rfl, wpAny_letOwnedTupleGo_zip (s := { s with heap := h', toks := tk }) z' fun h'' z'' sb => ?_⟩
    obtain ⟨x, ex, rx⟩ : ∃ x, xs[i]? = some x ∧ RelV x u1 := by
      obtain ⟨u, hu, ru⟩ := rv.get (List.getElem?_eq_getElem lx)
      refine ⟨_, List.getElem?_eq_getElem lx, ?_⟩
      have : its[i]? = some u1 := by simpa using g1
      rw [this] at hu
      cases hu
      exact ru
    obtain ⟨y, ey, ry⟩ : ∃ y, ys[i]? = some y ∧ RelV y u2 := by
      obtain ⟨u, hu, ru⟩ := rw'.get (List.getElem?_eq_getElem ly)
      refine ⟨_, List.getElem?_eq_getElem ly, ?_⟩
      have : jts[i]? = some u2 := by simpa using g2
      rw [this] at hu
      cases hu
      exact ru
    have pair : h''.get? s.heap.objs.size = some { cls := .type "tuple", data := .seq #[u1, u2] } := (sb.2 _ (Nat.ne_of_gt zl)).trans hT
    have ok : ObjOk X.prog X.w (upd H s.heap.objs.size (.tup [x, y])) h'' s.heap.objs.size (.tup [x, y]) := ⟨by show 2 ≤ sizeLine; decide, [u1, u2], .cons rx (.cons ry .nil), ⟨_, pair, rfl, _, rfl⟩⟩
    have out : ∀ c o, c ∉ [z, TI, TO, i1, i2] → s.heap.get? c = some o → h''.get? c = some o := fun c o hb q =>
      (sb.2 c (by rintro rfl; simp at hb)).trans (hk c o (by rintro rfl; simp at hb) (by rintro rfl; simp at hb) (by rintro rfl; simp at hb) (by rintro rfl; simp at hb) q)
    refine ⟨.ref s.heap.objs.size, upd H s.heap.objs.size (.tup [x, y]), I.turnedNew (t' := tk) (ch := [z, TI, TO, i1, i2]) out hf (Nat.le_refl _) ok, rfl, ⟨s.heap.objs.size, x, y, rfl, I.hok.fresh (Nat.le_refl _), rfl, fun l hl => by rw [I.list_inj hl hx]; exact ex, fun l hl => by rw [I.tuple_inj hl hy]; exact ey⟩, ⟨z'', (sb.2 _ S.TIz).trans (hk _ _ S.TIz S.TITO S.TIi1 S.TIi2 hTI), ⟨u1, u2, (sb.2 _ S.TOz).trans TO'⟩, u1'.1.at fun o => (sb.2 _ (Ne.symm S.zi1)).trans, u2'.1.at fun o => (sb.2 _ (Ne.symm S.zi2)).trans⟩, fun c hcm => ?_⟩
    obtain ⟨o1, e1, _⟩ := t1
    obtain ⟨o2, e2, _⟩ := t2
    have cl : c < s.heap.objs.size := by
      rcases cells hcm with rfl | rfl | rfl | rfl | rfl
      · exact zl
      · exact Heap.lt_size hTI
      · exact Heap.lt_size hTO
      · exact Heap.lt_size e1
      · exact Heap.lt_size e2
    rw [upd_ne (Nat.ne_of_lt cl)]
    exact (hf c hcm).1
  · intro X hP hw hK hc i pins s σ H E I hf st hg
    subst hP hw hK
    obtain ⟨hz, hTI, ⟨x0, y0, hTO⟩, t1, t2⟩ := st
    obtain ⟨xs, ys, hx, hy, lx, ly, hend⟩ := hg
    obtain ⟨its, rv, p1, _⟩ := I.list hx
    obtain ⟨jts, rw', p2, _⟩ := I.tuple hy
    have len1 : its.toArray.size = xs.length := by rw [List.size_toArray]; exact rv.length.symm
    have len2 : jts.toArray.size = ys.length := by rw [List.size_toArray]; exact rw'.length.symm
    have hdl : X.A.in1.handled = none := I.ok.hd hc
    refine wpAny_pyNext_zipD2_end S (Draws.list hdl i1 a n1 its.toArray) (Draws.tuple hdl i2 b n2 jts.toArray) hz hTI hTO ⟨t1, p1.isList⟩ ⟨t2, p2⟩ (by rw [len1]; exact lx) (by rw [len2]; exact ly) (by rw [len1, len2]; exact hend) ?_
    intro h' tk hk
    exact ⟨rfl, I.turnedL (t' := tk) (ch := [z, TI, TO, i1, i2]) (fun c o hb q => hk c o (by rintro rfl; simp at hb) (by rintro rfl; simp at hb) (by rintro rfl; simp at hb) (by rintro rfl; simp at hb) q) hf⟩
theorem zsep (n a b : Nat) (la : a < n) (lb : b < n) : ZipSep2 (n + 4) (n + 2) (n + 3) n (n + 1) [n, a] [n + 1, b] := by
  have out : ∀ {c d e : Nat}, c ≠ d → c ≠ e → c ∉ [d, e] := fun h1 h2 h => by
    rcases List.mem_cons.1 h with h | h
    · exact h1 h
    · exact h2 (List.mem_singleton.1 h)
  have g : ∀ {c d : Nat}, c < d → d ≠ c := fun h => Nat.ne_of_gt h
  have g' : ∀ {c d : Nat}, c < d → c ≠ d := fun h => Nat.ne_of_lt h
  exact ⟨g' (by omega), g' (by omega), g' (by omega), g (by omega), List.mem_cons_self, out (g (by omega)) (g (by omega)), out (g (by omega)) (g (by omega)), g (by omega), List.mem_cons_self, out (g (by omega)) (g (by omega)), out (g (by omega)) (g (by omega)), out (g' (by omega)) (g (by omega)), out (g (by omega)) (g (by omega))⟩
def iZipM (K : PySem.W.Frag) (ta : TA) : TI := fun σ H R => ta σ H fun vs H1 => ∃ a b xs ys, vs = [.ref a, .ref b] ∧ SqL K H1 a xs ∧ SqT K H1 b ys ∧ R (ItzM K a b) H1
theorem pi_zipM {X : Cx} {K : PySem.W.Frag} {e e2 : Expr} {ta : TA} {p pos tpos : Pos} {elts : List Expr} {kk : Nat} (hK : X.K = K) (hg : Gl X "zip") (hm : X.mg "zip" = none) (ha : PA X [e, e2] ta)
    (hs : starEach [e, e2] X.env = (false, eval e X.env) :: starEach [e2] X.env := by rfl) (hpl : (backTo pos (starEach [e2] X.env)).any (·.1) = false := by rfl) : PI X (.Tuple elts kk tpos) (.Call (.Name "zip" p) [e, e2] [] pos) (iZipM K ta) := by
  subst hK
  constructor
  intro pins s σ H R I h
  refine Call_ (ld_blt I hg hm PyProof.Rows.boot_zip (PyProof.Rows.callWith_type1 (thn (ha.run pos pins s σ H _ I h) fun us s1 z => ?_) hs hpl))
  obtain ⟨vs, H1, I1, r1, a, b, xs, ys, rfl, hx, hy, q⟩ := z
  obtain ⟨u1, u2, rfl, e1, e2⟩ := r1.two
  cases (show u1 = Value.ref a from e1)
  cases (show u2 = Value.ref b from e2)
  obtain ⟨its, rv, p1, _⟩ := I1.list hx
  obtain ⟨jts, rw', p2, _⟩ := I1.tuple hy
  have la : a < s1.heap.objs.size := p1.lt
  have lb : b < s1.heap.objs.size := by obtain ⟨o, e, _⟩ := id p2; exact Heap.lt_size e
  refine zip_begins2 (begins_list a its.toArray) (begins_tuple b jts.toArray) p1.isList p2 ?_
  intro h' hz hTI hTO h1 h2 hsz hk
  refine wpAny_pyIter_zip hz ?_
  have I2 : Inv X pins σ H1 { s1 with heap := h' } := I1.kept (t' := s1.toks) hk
  have sep := zsep s1.heap.objs.size a b la lb
  refine ⟨_, _, _, _, H1, rfl, I2, turn_zipM sep (Nat.ne_of_lt la) (Nat.ne_of_lt (Nat.lt_succ_of_lt lb)) rfl, ⟨hz, hTI, ⟨_, _, hTO⟩, ⟨_, h1, rfl, rfl⟩, ⟨_, h2, rfl, rfl⟩⟩, ?_, q⟩
  intro c hc
  have hle : s1.heap.objs.size ≤ c := by
    have h5 : c = s1.heap.objs.size + 4 ∨ c = s1.heap.objs.size + 2 ∨ c = s1.heap.objs.size + 3 ∨ c = s1.heap.objs.size ∨ c = s1.heap.objs.size + 1 := by simpa using hc
    show (_ : Nat) ≤ _
    rcases h5 with e | e | e | e | e <;> rw [e] <;> omega
  exact I1.fpOk hle (I1.hok.fresh hle)
section
variable {σ : L2.St} {H : Hp} {K : PySem.W.Frag} {g : TG} {tt : TT} {ta : TE} {tA : TA} {vs : List Nat} {Q : VK} {l : List Asn} {p q : Addr} {xs ys : List V} {i j : Nat} {te : TE} {tl : TO}
theorem r_lcZM (h : tA σ H fun us H1 => ∃ a b xs ys, us = [.ref a, .ref b] ∧ SqL K H1 a xs ∧ SqT K H1 b ys ∧ LcB (ItzM K a b) g tt ta vs σ H1 Q) : tLc (iZipM K tA) g tt ta vs σ H Q := h
/-- .. over zip(a list, a tuple) -/
theorem lcZM (S : Sep l H) (hi : l[i]? = some (At p (.lst xs))) (hj : l[j]? = some (Tp q ys)) (hn : ys.length ≤ xs.length) (Pv : Addr → Nat → Hp → Prop) (h0 : ∀ D H', Sep (At D (.lst []) :: l) H' → Pv D 0 H') (hl : ∀ D i H, Pv D i H → SqL K H p xs ∧ SqT K H q ys)
    (hs : ∀ D i x y T H H', xs[i]? = some x → ys[i]? = some y → Pv D i H → H T = none → H' = upd H T (.tup [x, y]) → LcT g tt ta vs σ (.ref T) D (Pv D (i + 1)) H') (hd : ∀ D H, Pv D ys.length H → Q (.ref D) H) :
    ∃ a b xs ys, [V.ref p, V.ref q] = [.ref a, .ref b] ∧ SqL K H a xs ∧ SqT K H b ys ∧ LcB (ItzM K a b) g tt ta vs σ H Q := by
  refine ⟨p, q, xs, ys, rfl, SqL.of (S.at hi), SqT.of (S.tp hj), fun D hD => ⟨fun i m H => m = ys.length - i ∧ i ≤ ys.length ∧ Pv D i H, ⟨ys.length, by simp, Nat.zero_le _, h0 D _ (S.new hD)⟩, ?_⟩⟩
  rintro i m H ⟨rfl, hi, pv⟩
  obtain ⟨qx, qy⟩ := hl D i H pv
  by_cases c : i < ys.length
  · refine .inr ⟨⟨xs, ys, qx, qy, by omega, c⟩, Pv D (i + 1), fun H' p' => ⟨ys.length - (i + 1), by omega, rfl, c, p'⟩, ?_⟩
    rintro v H' ⟨T, x, y, rfl, hn, rfl, f1, f2⟩
    exact hs D i x y T H _ (f1 xs qx) (f2 ys qy) pv hn rfl
  · have e : i = ys.length := by omega
    subst e
    exact .inl ⟨⟨xs, ys, qx, qy, hn, Nat.le_refl _, .inr rfl⟩, hd D H pv⟩
theorem r_slEv (h : te σ H fun x H1 => tl σ H1 fun lo H2 => gSlEv K x lo H2 Q) : tSlEv K te tl σ H Q := h
theorem sl_ev {lo : Option Int} (S : Sep l H) (hi : l[i]? = some (At p (.lst xs))) (hlo : lo = none ∨ lo = some 1) (k : ∀ D H', Sep (At D (.lst (evFrom lo xs)) :: l) H' → Q (.ref D) H') : gSlEv K (.ref p) lo H Q :=
  ⟨hlo, p, xs, rfl, SqL.of (S.at hi), fun D hD => k D _ (S.new hD)⟩
end
/-! C(e, *xs) -/
def tStarK (K : PySem.W.Frag) (te : TE) (t : TA) : TA := fun σ H Q => te σ H fun x H1 => ∃ p xs, x = V.ref p ∧ (SqT K H1 p xs ∨ SqL K H1 p xs) ∧ t σ H1 fun ys H2 => Q (xs ++ ys) H2
theorem pa_gStar {X : Cx} {K : PySem.W.Frag} {e : Expr} {es : List Expr} {te : TE} {t : TA} {p : Pos} (hK : X.K = K) (he : PE X e te) (hr : PA X es t) (hs : starEach (.Starred e p :: es) X.env = (true, eval e X.env) :: starEach es X.env := by rfl) : PA X (.Starred e p :: es) (tStarK K te t) := by
  subst hK
  exact StX.pa_star he hr hs
section
variable {σ : L2.St} {H : Hp} {K : PySem.W.Frag} {Q : List V → Hp → Prop} {l : List Asn} {p : Addr} {xs : List V} {i : Nat} {te : TE} {t : TA} {R : Prop}
theorem r_star (q : te σ H fun x H1 => ∃ p xs, x = V.ref p ∧ (SqT K H1 p xs ∨ SqL K H1 p xs) ∧ t σ H1 fun ys H2 => Q (xs ++ ys) H2) : tStarK K te t σ H Q := q
theorem c_starL {R : List V → Prop} (S : Sep l H) (hi : l[i]? = some (At p (.lst xs))) (q : R xs) : ∃ p' xs', V.ref p = V.ref p' ∧ (SqT K H p' xs' ∨ SqL K H p' xs') ∧ R xs' := ⟨p, xs, rfl, .inr (SqL.of (S.at hi)), q⟩
end
theorem pe_makeS {X : Cx} {CX : CXT} {k : Nat} {f C : Addr} {sp : Sp} {E : XK} {x : Str} {e : Expr} {es : List Expr} {t : TA} {p pos : Pos} (M : Mk X.K C f) (F : FnR X.prog X.w X.K X.mg X.base CX k f sp) (hr : Room (k + 1) X.A) (hg : Gl X x) (hm : X.mg x = some (.ref C)) (hx : Passes CX X E) (ha : PA X (e :: es) t)
    (hdb : (x == ("__debug__" : Str)) = false := by decide) (he : starEach (e :: es) X.env = (false, eval e X.env) :: starEach es X.env := by rfl) (hst : (backTo pos (starEach es X.env)).any (·.1) = true := by rfl) : PE X (.Call (.Name x p) (e :: es) [] pos) (StX.tMakeR C sp E t) := by
  constructor
  intro pins s σ H Q I h
  refine wpAny_Call_Name_kw (ld_glob I hg hm (PySem.W.callWith_S2 (h₀ := X.base) I.ok.mod.kin M.kp (thn (ha.run pos pins s σ H _ I h) fun us s1 z => ?_) he hst) hdb)
  obtain ⟨vs, H1, I1, r, q⟩ := z
  exact ⟨I1.kIn, StX.run_makeR M F hr hx I1 r q⟩
end
local macro_rules | `(tactic| walk_at "v1") => `(tactic| (first
  | with_reducible refine r_star ?_
  | with_reducible refine r_lcZM ?_
  | with_reducible refine r_slEv ?_
  | ((with_reducible refine' sl_ev (by assumption) ?hi ?hlo ?_); (case hi => walk_at "has"); (case hlo => first | exact .inl rfl | exact .inr rfl); intro _ _ _)))

/-! texts cut, great letters -/
section
open PyProof.Rows
def gUpper : V → List V → Hp → VK → Prop := fun x xs H Q => ∃ a, x = .str a ∧ xs = [] ∧ a.length ≤ 5592405 ∧ Q (.str (Txt.upper a)) H
theorem mt_gUpper {X : Cx} : MtR X "str.upper" gUpper := mt_upper
theorem m_upper {H : Hp} {Q : VK} {a : Str} (hz : a.length ≤ 3000) (q : Q (.str (Txt.upper a)) H) : gUpper (.str a) [] H Q := ⟨a, rfl, rfl, by omega, q⟩
theorem cutS_n {p q : Str} {n : Nat} (h : n = p.length) : cutS (p ++ q) none (some (n : Int)) = p := by
  subst h
  refine str_eq_of ?_
  unfold cutS
  rw [HT.sIx_nat, HT.sIx_none, cps_app, Nat.sub_zero, List.drop_zero]
  have e : min p.length (p ++ q).length = p.cps.toList.length := by
    rw [show (p ++ q).length = p.length + q.length from by simp [Str.length, ← Array.length_toList, cps_app]]
    rw [Nat.min_eq_left (Nat.le_add_right _ _)]
    simp [Str.length]
  show ((p.cps.toList ++ q.cps.toList).take _).toArray.toList = _
  rw [e, List.take_left]
theorem cutS_m {p q : Str} {n : Nat} (h : n = q.length) (h0 : 0 < n) : cutS (p ++ q) none (some (-(n : Int))) = p := by
  subst h
  refine str_eq_of ?_
  have e0 : (p ++ q).length = p.length + q.length := by simp [Str.length, ← Array.length_toList, cps_app]
  unfold cutS
  rw [HT.sIx_none, cps_app, Nat.sub_zero, List.drop_zero]
  have e : HT.sIx (p ++ q).length (p ++ q).length (some (-(q.length : Int))) = p.cps.toList.length := by
    show (if (-(q.length : Int)) < 0 then ((-(q.length : Int)) + ((p ++ q).length : Int)).toNat else _) = _
    rw [if_pos (by omega), e0]
    simp [Str.length]
    omega
  show ((p.cps.toList ++ q.cps.toList).take _).toArray.toList = _
  rw [e, List.take_left]
theorem at_m2 {l : List Nat} {c d : Nat} : atI (l ++ [c, d]) (-2) = some c := by
  unfold atI ixN
  rw [if_neg (by decide), if_pos (by simp; omega)]
  show (l ++ [c, d])[_]? = some c
  rw [show ((-2 : Int) + ((l ++ [c, d]).length : Int)).toNat = l.length by simp only [List.length_append, List.length_cons, List.length_nil]; omega]
  simp
end
local macro_rules | `(tactic| walk_at "v1") => `(tactic| ((with_reducible refine' m_upper ?hz ?_); (case hz => (first | assumption | omega))))

/-! own errors made and kept as values: their class, their fields -/
section
open PyProof.Rows
/-- a class of errors, its bases bm -/
structure EcK (K : PySem.W.Frag) (C : Addr) (bm : List Value) : Prop where
  ex : ∃ (B newId initId : String) (bmB : List Value), ExcBaseFacts B newId initId bmB ∧ (∀ T : String, bm.contains (.type T) = bmB.contains (.type T)) ∧
    ∃ nm q N bs sn sub ab col dd k0 k1 k2 k3 k5, K.lookup C = some (excClassObj nm q C N bs bm true sn sub ab col dd k0 k1 k2 k3 k5 newId)
  kp : PySem.W.keepIn K (.ref C) = true
section
variable {K : PySem.W.Frag} {C Z : Addr} {bm bz : List Value}
theorem EcK.cls (h : EcK K C bm) : ∃ cd, PySem.W.clsIn K C = some cd ∧ cd.mro = .ref C :: bm := by
  obtain ⟨_, _, _, _, _, _, nm, q, N, bs, sn, sub, ab, col, dd, k0, k1, k2, k3, k5, hC⟩ := h.ex
  unfold PySem.W.clsIn
  rw [hC]
  exact ⟨_, rfl, rfl⟩
theorem EcK.ty (h : EcK K C bm) : PySem.W.typeIn K (.ref C) = some (.type "type") := by
  obtain ⟨_, _, _, _, _, _, nm, q, N, bs, sn, sub, ab, col, dd, k0, k1, k2, k3, k5, hC⟩ := h.ex
  show (K.lookup C).map (fun o => o.cls) = _
  rw [hC]
  rfl
theorem EcK.sub (h : EcK K C bm) (v : Value) : PySem.W.subIn K (.ref C) v = some ((Value.ref C :: bm).contains v) := by
  obtain ⟨cd, e, em⟩ := h.cls
  show PySem.W.mroIn K C v = _
  unfold PySem.W.mroIn
  rw [e, Option.bind_some, em]
  rfl
theorem EcK.kit (h : EcK K C bm) (hz : EcK K Z bz) : PySem.W.kitOne K (.ref C) (.ref Z) = some ((Value.ref C :: bm).contains (.ref Z)) := by
  unfold PySem.W.kitOne
  by_cases e : C = Z
  · subst e
    simp
  · rw [if_neg (by simpa using e)]
    obtain ⟨cd, ez, _⟩ := hz.cls
    unfold PySem.W.kitCls
    simp only [ez, hz.ty, Option.isSome_some, Bool.true_and, beq_self_eq_true, if_true]
    exact h.sub _
theorem EcK.kitT (h : EcK K C bm) (T : String) (hm : PySem.W.kitMeta T = true) : PySem.W.kitOne K (.ref C) (.type T) = some ((Value.ref C :: bm).contains (.type T)) := by
  unfold PySem.W.kitOne
  rw [if_neg (by simp)]
  show (if PySem.W.kitMeta T = true then PySem.W.subIn K (.ref C) (.type T) else none) = _
  rw [if_pos hm]
  exact h.sub _
end
/-! further fields of an error over any built-in base -/
section
open Builtin Builtin.ObjectAttr PySem.W PySem.HandSPX
theorem exb_set_old {prog : Program} {w : World} {A : Around} {R : Result → Shared → Prop} {h0 : Heap} {g0 : Array GenState} {d0 : Drawn} {t0 : Nat} {o0 : OsState} {K : Frag} {fld : Str} {tk : Tok} {u : Value} {e C dx : Addr} {fv : Array Value} {cd : ClassData} {bm : List Value} {m0 : Str → Option Value} {nl : List Str}
    (KX : K.In h0) (he : h0.get? e = some { cls := .ref C, dict := some dx, data := .fields fv }) (hns : h0.Ns1 dx m0) (hw : Within m0 nl) (hz : nl.length ≤ 1000) (hcd : clsIn K C = some cd) (hm : cd.mro = .ref C :: bm) (pass : ∀ v : Value, refuseLoop v "__setattr__" bm = pure ()) (hob : bm.contains (.type "object") = true) (hh : cd.hasDict = true) (hno : findIn K (.ref C) fld = some none)
    (k : ∀ h1 t1, (∀ b o, b ≠ dx → h0.get? b = some o → h1.get? b = some o) → h1.Ns1 dx (fun y => if y = fld then some u else m0 y) → R (.ok (.ret .none)) ⟨h1, g0, d0, t1, o0⟩) :
    codeAny (model prog w) A (.call (.builtin "object.__setattr__") ⟨[.ref e, .str fld tk, u], []⟩) R ⟨h0, g0, d0, t0, o0⟩ := by
  obtain ⟨oD, _, _, hoD, _, _⟩ := hns.count hw
  have J : InstAt h0 e { cls := .ref C, dict := some dx, data := .fields fv } C (some oD) := ⟨he, rfl, rfl, hoD⟩
  have SO := PySem.F.store_object
  have hob2 : cd.mro.contains (.type "object") = true := by rw [hm, List.contains_cons, hob, Bool.or_true]
  have ne2 : cd.mro.isEmpty = false := by rw [hm]; rfl
  have subE : Looks (model prog w) h0 (isInstance (.ref e) (.type "object")) true := J.type.andThen (looks_mroIn KX (by unfold mroIn; rw [hcd, Option.bind_some, if_neg (by rw [ne2]; decide), hob2]))
  refine codeAny_call_builtin SO.slot.plain SO.entry (@check_slot (model prog w) _ _ ⟨h0, g0, d0, t0, o0⟩ "object.__setattr__" "object" "__setattr__" (.ref e) [.str fld tk, u] [] _ SO.kind SO.split subE (SO.args (.ref e) (.str fld tk) u) ?_)
  have mroE : Looks (model prog w) h0 (mroOf (.ref C)) cd.mro := (looks_clsIn KX hcd).andThen .now
  have takE : Looks (model prog w) h0 (storeTaker? none) none := .now
  have clsE : Looks (model prog w) h0 (classData C) cd := looks_clsIn KX hcd
  rw [osa_eq, refuse_eq]
  refine wpAny_bind (wpAny_bind (J.type.at (wpAny_bind (mroE.at ?_))))
  rw [hm, refuseLoop_ref, pass]
  refine wpAny_pure (wpAny_bind (J.type.at (wpAny_bind ((looks_findIn KX hno).at (wpAny_bind (takE.at ?_))))))
  show wpAny _ _ (storeInOwnDict (.ref e) (.ref C) (.str fld tk) fld u false) _ _ _
  obtain ⟨c1, c2, c3, c4, c5, c6, c7, c8, c9, c10, c11⟩ := cd
  dsimp only at hh
  subst hh
  unfold storeInOwnDict; unfold ownDictForStores
  repeat (first | with_reducible refine PySem.OEX.store_in_old hns hw hz ?_ | with_reducible refine wpAny_loadPart_at he ?_ | with_reducible refine clsE.at ?_ | wp_step)
  intro h1 t1 hn1 hs1
  exact k h1 t1 (fun b o hb ho => (hs1.2 b hb).trans ho) hn1
end
section
variable {X : Cx} {ps : List (Addr × Obj)} {σ : L2.St} {H : Hp} {s : Shared} {a C dx : Addr} {f : Str} {y : V} {u : Value} {fs : List (Str × V)} {Q : Unit → Shared → Prop} {E : Value → Shared → Prop} {A : Around}
theorem exb_put_old (T : OexB X.K C) (I : Inv X ps σ H s) (e : H a = some (exo a C (some dx))) (ed : H dx = some (exd dx fs)) (hl : fs.length ≤ 900) (hno : PySem.W.findIn X.K (.ref C) f = some none) (ry : RelV y u)
    (h : ∀ s', Inv X ps σ (upd H dx (exd dx ((f, y) :: fs))) s' → Q () s') : wpAny (model X.prog X.w) A (setAttr (.ref a) f u) Q E s := by
  obtain ⟨B, n1, n2, bm, FB, pass, hob, nm, q, N, bs, sn, sub, ab, col, dd, k0, k1, k2, k3, k5, hC⟩ := T.ex
  have hcl : PySem.W.clsIn X.K C = some { name := nm, bases := bs, mro := .ref C :: bm, ns := N, qualname := q, hasDict := true, slotNames := sn, subclasses := sub, abstract := ab, collection := col, hasDel := false } := by
    unfold PySem.W.clsIn; rw [hC]
  obtain ⟨tt, ho⟩ := exo_at I.hok e
  obtain ⟨mA, hns, rel⟩ := exd_at I.hok ed
  have hw := within_of rel
  obtain ⟨h0, g0, d0, t0, o0⟩ := s
  obtain ⟨oD, _, _, hoD, _, _⟩ := hns.count hw
  refine PySem.W.set_plain I.kIn (ox := { cls := .ref C, dict := some dx, data := .fields #[.ref tt, .none, .none, .none, .bool false, .none] }) (od := some oD) ⟨ho, rfl, rfl, hoD⟩ T.sa ?_
  refine exb_set_old I.kIn ho hns hw (by rw [List.length_map]; omega) hcl rfl pass hob rfl hno (fun h1 t1 kp hn => ?_)
  have there : ∃ o, h1.get? dx = some o := by
    obtain ⟨o, _, _, e', _⟩ := hn
    exact ⟨o, e'⟩
  exact h _ (I.write (t' := t1) (x := dx) (e := dx) (o := exd dx ((f, y) :: fs)) (by rw [ed]; exact True.intro) (.inl rfl) kp there (exd_ok hn (relO_put ry rel)))
end
def tOstC (K : PySem.W.Frag) (f : Str) (to te : TE) : TS := fun D σ H => te σ H fun y H1 => to σ H1 fun x H2 => ∃ a C : Addr, x = .ref a ∧ OexB K C ∧ PySem.W.findIn K (.ref C) f = some none ∧
  ((H2 a = some (exo a C none) ∧ ∀ dx, H2 dx = none → dx ≠ a → D.nx σ (upd (upd H2 dx (exd dx [(f, y)])) a (exo a C (some dx)))) ∨
    ∃ (dx : Addr) (fs : List (Str × V)), H2 a = some (exo a C (some dx)) ∧ H2 dx = some (exd dx fs) ∧ fs.length ≤ 900 ∧ D.nx σ (upd H2 dx (exd dx ((f, y) :: fs))))
theorem ps_gOstC {X : Cx} {K : PySem.W.Frag} {o e : Expr} {f : Str} {to te : TE} {p' pos : Pos} (hK : X.K = K) (ho : PE X o to) (he : PE X e te) (hs : swapsWith e (some (.Attribute o f p')) pos.line X.env = pure false := by rfl) : PS X (.Assign [.Attribute o f p'] e pos) (tOstC K f to te) := by
  subst hK
  constructor
  intro ps s0 σ H D I h
  refine plainObj_wpAny_Assign_Attribute (thn (he.run ps s0 σ H _ I h) fun v s1 hv => thn (ho.run ps s1 σ hv.choose_spec.choose _ hv.choose_spec.choose_spec.1 hv.choose_spec.choose_spec.2.2) fun u s2 hu => ?_) hs
  obtain ⟨x, H2, I2, r2, a, C, ex, T, hno, q⟩ := hu
  subst ex
  cases (show u = Value.ref a from r2)
  rcases q with ⟨ea, q⟩ | ⟨dx, fs, ea, ed, hl, q⟩
  · exact exb_put T I2 ea hno hv.choose_spec.choose_spec.2.1 fun dx s' n ne J => ⟨σ, _, J, q dx n ne⟩
  · exact exb_put_old T I2 ea ed hl hno hv.choose_spec.choose_spec.2.1 fun s' J => ⟨σ, _, J, q⟩
theorem r_ostC {K : PySem.W.Frag} {f : Str} {to te : TE} {σ : L2.St} {H : Hp} {nx bk ct : L2.St → Hp → Prop} {rt : VK} (q : te σ H fun y H1 => to σ H1 fun x H2 => ∃ a C : Addr, x = .ref a ∧ OexB K C ∧ PySem.W.findIn K (.ref C) f = some none ∧
  ((H2 a = some (exo a C none) ∧ ∀ dx, H2 dx = none → dx ≠ a → nx σ (upd (upd H2 dx (exd dx [(f, y)])) a (exo a C (some dx)))) ∨
    ∃ (dx : Addr) (fs : List (Str × V)), H2 a = some (exo a C (some dx)) ∧ H2 dx = some (exd dx fs) ∧ fs.length ≤ 900 ∧ nx σ (upd H2 dx (exd dx ((f, y) :: fs))))) : tOstC K f to te ⟨nx, rt, bk, ct⟩ σ H := q
/-- C(..), kept -/
@[irreducible] def gMkH (C : Addr) (sp : Sp) (vs : List V) (H1 : Hp) (Q : VK) : Prop := vs.length ≤ 1000 ∧ ∀ a, H1 a = none → sp (.ref a :: vs) (upd H1 a (exo a C none)) (fun v H2 => v = .non ∧ Q (.ref a) H2) (fun _ _ _ => False)
def tMkH (C : Addr) (sp : Sp) (ta : TA) : TE := fun σ H Q => ta σ H fun vs H1 => gMkH C sp vs H1 Q
theorem pe_mkH {X : Cx} {K : PySem.W.Frag} {CX : CXT} {x : Str} {C fI : Addr} {k : Nat} {fd : FuncData} {ns : List Str} {sp : Sp} {e : Expr} {es : List Expr} {ta : TA} {p pos : Pos} {bm : List Value} (hK : X.K = K) (T : EcK K C bm) (iC : PySem.W.findIn K (.ref C) "__init__" = some (some (.ref fI))) (tI : PySem.W.typeIn K (.ref fI) = some (.type "function"))
    (F1 : FnOk X.prog X.w K X.mg X.base CX k fI fd ns sp) (hr : Room (k + 1) X.A) (hb : Binds K fd ns []) (hx : Passes CX X (fun _ _ _ => False)) (hg : Gl X x) (hm : X.mg x = some (.ref C)) (ha : PA X (e :: es) ta)
    (hdb : (x == ("__debug__" : Str)) = false := by decide) (he : starEach (e :: es) X.env = (false, eval e X.env) :: starEach es X.env := by rfl) (hpl : (backTo pos (starEach es X.env)).any (·.1) = false := by rfl) : PE X (.Call (.Name x p) (e :: es) [] pos) (tMkH C sp ta) := by
  subst hK
  constructor
  intro ps s σ H Q I h
  obtain ⟨B, n1, n2, bmB, FB, hcon, nm, q, N, bs, sn, sub, ab, col, dd, k0, k1, k2, k3, k5, hC⟩ := T.ex
  refine wpAny_Call_Name_kw (ld_glob I hg hm (PySem.W.callWith_K (h₀ := X.base) I.ok.mod.kin T.kp (thn (ha.run pos ps s σ H _ I h) fun us s1 z => ?_) he hpl) hdb)
  obtain ⟨vs, H1, I1, r1, hq0⟩ := z
  unfold gMkH at hq0
  obtain ⟨hz, q1⟩ := hq0
  refine ⟨I1.kIn, ?_⟩
  show wpAny _ _ (call (.ref C) us) _ _ _
  obtain ⟨h0, g0, d0, t0, o0⟩ := s1
  have lz : h0.objs.size ≤ h0.objs.size + 1 := Nat.le_succ _
  have hn : H1 (h0.objs.size + 1) = none := I1.hok.fresh lz
  have kk : ∀ b o, h0.get? b = some o → ((h0.push (PySem.W.kdv_tup us)).push (PySem.HandSPX.excO C h0.objs.size)).get? b = some o := fun b o z => Heap.get?_push_of_some _ (Heap.get?_push_of_some _ z)
  have hget : ((h0.push (PySem.W.kdv_tup us)).push (PySem.HandSPX.excO C h0.objs.size)).get? (h0.objs.size + 1) = some (PySem.HandSPX.excO C h0.objs.size) := by heap_get
  have I2 : Inv X ps σ (upd H1 (h0.objs.size + 1) (exo (h0.objs.size + 1) C none)) ⟨(h0.push (PySem.W.kdv_tup us)).push (PySem.HandSPX.excO C h0.objs.size), g0, d0, t0, o0⟩ :=
    I1.laid (t' := t0) (a := h0.objs.size + 1) (o := exo (h0.objs.size + 1) C none) (h' := (h0.push (PySem.W.kdv_tup us)).push (PySem.HandSPX.excO C h0.objs.size)) kk lz (exo_ok hget)
  have hq := q1 (h0.objs.size + 1) hn
  have r2 : Vals (V.ref (h0.objs.size + 1) :: vs) (Value.ref (h0.objs.size + 1) :: us) := .cons rfl r1
  have hl : (Value.ref (h0.objs.size + 1) :: us).length = ns.length := by
    have z := r2.length
    rw [F1.len _ _ _ _ hq] at z
    exact z.symm
  have hus : us.length ≤ sizeLine := by rw [← Paired.length r1, sizeLine_eq]; omega
  have hb2 := hb ⟨(h0.push (PySem.W.kdv_tup us)).push (PySem.HandSPX.excO C h0.objs.size), g0, d0, t0, o0⟩ (Value.ref (h0.objs.size + 1) :: us) I2.kIn (by rw [List.append_nil]; exact hl)
  rw [List.append_nil] at hb2
  refine wpAny_call (PySem.HandSPX.call_own FB hcon (I1.kIn _ _ hC) (PySem.W.looks_findIn I1.kIn iC) (fun self => PySem.W.bind_fn I1.kIn self tI) hus
    (codeAny_mono (F1.run _ X.stack _ _ ⟨Value.ref (h0.objs.size + 1) :: us, []⟩ (Value.ref (h0.objs.size + 1) :: us) _ _ (fun _ _ _ => False) (hr.make C us []) (I2.env0.make C us []) hb2 r2 hq) fun r s' hq' => ?_))
  match r, hq' with
  | .error er, hq' => exact hx ps σ _ _ er s' I2 hq'
  | .ok (.ret u), hq' =>
    obtain ⟨v, H2, I3, rv, ev, q2⟩ := I2.after hq'
    subst ev
    exact ⟨rv, .ref (h0.objs.size + 1), H2, I3, rfl, q2⟩
  | .ok .next, hq' => exact hq'.elim
  | .ok .brk, hq' => exact hq'.elim
  | .ok .cont, hq' => exact hq'.elim
/-- C() of a class without an own __init__, kept -/
theorem pe_exc0 {X : Cx} {C : Addr} {bmB : List Value} {B newId initId : String} {x : Str} {p pos : Pos} (F : ExcBaseFacts B newId initId bmB) (q : PySem.W.excIn X.K C bmB newId = true) (kC : PySem.W.keepIn X.K (.ref C) = true) (hg : Gl X x) (gC : X.mg x = some (.ref C)) (hdb : (x == ("__debug__" : Str)) = false := by decide) :
    PE X (.Call (.Name x p) [] [] pos) (fun _ H Q => ∀ a, H a = none → Q (.ref a) (upd H a (ExO (.ref C) a))) := by
  constructor
  intro ps s σ H Q I h
  refine wpAny_Call_Name_kw (ld_glob I hg gC (PySem.W.callWith_K0 (first := []) I.kIn kC ?_) hdb)
  obtain ⟨bm, N, nm, qn, bs, hdct, sn, sub, ab, col, dd, k0, k1, k2, k3, k5, mN, hC, hN, hni, T⟩ := exc_obj I.kIn q
  refine wpAny_call_exc_subT F T hC hN hni (fun h' a hm => ?_) (Nat.zero_le _)
  have hn : H a = none := I.hok.gone hm.new
  obtain ⟨t, ht, _, _⟩ := hm.there
  exact ⟨.ref a, upd H a (ExO (.ref C) a), I.laidN hm.keeps hm.new hn (exO_ok ht ⟨rfl, rfl⟩ rfl rfl rfl (show 4 < 6 by decide)), rfl, h a hn⟩
/-- an error of the class C stands at a -/
def ErO (H : Hp) (a C : Addr) : Prop := (∃ dx fs, H a = some (exo a C (some dx)) ∧ H dx = some (exd dx fs)) ∨ H a = some (ExO (.ref C) a)
theorem er_inst {X : Cx} {ps : List (Addr × Obj)} {σ : L2.St} {H : Hp} {s : Shared} {a C : Addr} (I : Inv X ps σ H s) (h : ErO H a C) : ∃ oe od, PySem.W.InstAt s.heap a oe C od := by
  rcases h with ⟨dx, fs, ea, ed⟩ | ea
  · obtain ⟨t, ho⟩ := exo_at I.hok ea
    obtain ⟨mA, hns, _⟩ := exd_at I.hok ed
    obtain ⟨od, hod, _⟩ := lookIn_ns hns
    exact ⟨_, some od, ho, rfl, rfl, hod⟩
  · obtain ⟨⟨oe, vs, ho, hz, hd, _⟩, _, _⟩ := I.hok a _ ea
    refine ⟨oe, none, ho, hz.1, by unfold PySem.W.notCls; rw [hd], ?_⟩
    rw [hz.2]
    trivial
def rIsH (K : PySem.W.Frag) : List V → Hp → VK → Prop := fun zs H Q => ∃ (a C : Addr) (c : V) (cv : Value) (b : Bool), zs = [.ref a, c] ∧ ErO H a C ∧ ExcC K C ∧ ClsV c cv ∧ PySem.W.kitOne K (.ref C) cv = some b ∧ Q (.bl b) H
theorem call_isH {X : Cx} {K : PySem.W.Frag} (hK : X.K = K) : CallR X (.builtin "isinstance") (rIsH K) := by
  subst hK
  intro ps s0 σ0 H0 zs us Q0 I0 r0 h0
  obtain ⟨a, C, c, cv, b, rfl, hE, T, hcv, e, q⟩ := h0
  obtain ⟨u1, u2, rfl, r1, r2⟩ := r0.two
  cases (show u1 = Value.ref a from r1)
  cases hcv.eq r2
  obtain ⟨oe, od, J⟩ := er_inst I0 hE
  have hcl : (PySem.W.clsIn X.K C).isSome = true := by
    obtain ⟨cd, hc, _⟩ := PySem.W.any_some T.hd
    rw [hc]; rfl
  exact PySem.W.kia_one (PySem.W.kitx_exc hcl T.hg T.hk T.hs T.ha T.hn T.ht T.hm) I0.kIn J e (by intro z; cases z) fun tk => ⟨.bl b, H0, I0.kept (t' := tk) (fun _ _ z => z), rfl, q⟩
/-- e.f, e an error that is kept -/
def gFldH (K : PySem.W.Frag) (f : Str) (x : V) (H1 : Hp) (Q : VK) : Prop := ∃ (a C dx : Addr) (fs : List (Str × V)) (v : V), x = .ref a ∧ H1 a = some (exo a C (some dx)) ∧ H1 dx = some (exd dx fs) ∧ XfC K C ∧ PySem.W.findIn K (.ref C) f = some none ∧ fs.lookup f = some v ∧ Q v H1
def tFldH (K : PySem.W.Frag) (f : Str) (te : TE) : TE := fun σ H Q => te σ H fun x H1 => gFldH K f x H1 Q
theorem pe_fldH {X : Cx} {K : PySem.W.Frag} {e : Expr} {te : TE} {n : Str} {pos : Pos} (hK : X.K = K) (he : PE X e te) (hb : attributeBase e n X.env (eval e X.env) = eval e X.env := by rfl) : PE X (.Attribute e n pos) (tFldH K n te) := by
  subst hK
  constructor
  intro ps s σ H Q I h
  refine attr_of hb (thn (he.run ps s σ H _ I h) fun u s1 z => ?_)
  obtain ⟨x, H1, I1, rx, a, C, dx, fs, v, rfl, ea, ed, T, hno, l, q⟩ := z
  cases (show u = Value.ref a from rx)
  obtain ⟨t, ho⟩ := exo_at I1.hok ea
  obtain ⟨mA, hns, hr⟩ := exd_at I1.hok ed
  obtain ⟨od, hod, hl⟩ := lookIn_ns hns
  obtain ⟨w, hw, rw'⟩ := RelO.some_of (v := v) (o := mA n) (by rw [← l]; exact hr n)
  have J : PySem.W.InstAt s1.heap a { cls := .ref C, dict := some dx, data := .fields #[.ref t, .none, .none, .none, .bool false, .none] } C (some od) := ⟨ho, rfl, rfl, hod⟩
  exact PySem.HandSPX.exc_get I1.kIn J T.ga T.gg T.exC (PySem.W.findObj_own T.hdC hno rfl (by rw [hl, hw])) (handed_of rw') ⟨v, H1, I1.tok _, rw', q⟩
/-! as assertions -/
def Er (a C : Addr) (fs : List (Str × V)) : Asn := Exs fun dx : Addr => Pk [At a (exo a C (some dx)), At dx (exd dx fs)]
theorem er_open {a C : Addr} {fs : List (Str × V)} {l : List Asn} {H : Hp} (S : Sep (Er a C fs :: l) H) : ∃ dx, Sep (At a (exo a C (some dx)) :: At dx (exd dx fs) :: l) H := by
  obtain ⟨dx, S⟩ := S.ex
  exact ⟨dx, S.open'⟩
theorem er_close {a C dx : Addr} {fs : List (Str × V)} {l : List Asn} {H : Hp} (S : Sep (At a (exo a C (some dx)) :: At dx (exd dx fs) :: l) H) : Sep (Er a C fs :: l) H := Sep.ex' (x := dx) (Sep.close' (l := [_, _]) S)
theorem er_at {a C : Addr} {fs : List (Str × V)} {l : List Asn} {H : Hp} {i : Nat} (S : Sep l H) (h : l[i]? = some (Er a C fs)) : ∃ dx, H a = some (exo a C (some dx)) ∧ H dx = some (exd dx fs) := by
  obtain ⟨dx, S⟩ := er_open (S.pick h)
  exact ⟨dx, S.at (i := 0) rfl, S.at (i := 1) rfl⟩
section
variable {l : List Asn} {H : Hp} {K : PySem.W.Frag} {C : Addr} {f g h : Str} {x y z : V} {sp : Sp} {ta : TA} {te : TE} {σ : L2.St} {Q : VK} {bm : List Value}
theorem r_mkH (q : ta σ H fun vs H1 => gMkH C sp vs H1 Q) : tMkH C sp ta σ H Q := q
theorem r_fldH (q : te σ H fun x H1 => gFldH K f x H1 Q) : tFldH K f te σ H Q := q
theorem f_er {a : Addr} {fs : List (Str × V)} {i : Nat} {v : V} (S : Sep l H) (hi : l[i]? = some (Er a C fs)) (T : XfC K C) (hn : PySem.W.findIn K (.ref C) f = some none) (hl : fs.lookup f = some v) (q : Q v H) : gFldH K f (.ref a) H Q := by
  obtain ⟨dx, ea, ed⟩ := er_at S hi
  exact ⟨a, C, dx, fs, v, rfl, ea, ed, T, hn, hl, q⟩
theorem c_isH {a : Addr} {c : V} {cv : Value} {b : Bool} (hE : ErO H a C) (T : ExcC K C) (hc : ClsV c cv) (hk : PySem.W.kitOne K (.ref C) cv = some b) (q : Q (.bl b) H) : rIsH K [.ref a, c] H Q := ⟨a, C, c, cv, b, rfl, hE, T, hc, hk, q⟩
/-- one field -/
theorem mkH1 (S : Sep l H) (T : OexC K C) (hno : PySem.W.findIn K (.ref C) f = some none) (k : ∀ a H', Sep (Er a C [(f, x)] :: l) H' → Q (.ref a) H') : gMkH C (sp_exi K f) [x] H Q := by
  unfold gMkH
  refine ⟨by show 1 ≤ 1000; decide, fun a ha => ⟨a, C, x, rfl, T, hno, upd_same, fun dx hdx hne => ⟨rfl, k a _ (er_close (dx := dx) ?_)⟩⟩⟩
  have hd1 : H dx = none := by rw [upd_ne hne] at hdx; exact hdx
  have S1 := S.new (o := exd dx [(f, x)]) hd1
  have ha1 : upd H dx (exd dx [(f, x)]) a = none := by rw [upd_ne (Ne.symm hne)]; exact ha
  have S2 := S1.new (o := exo a C (some dx)) ha1
  have e : upd (upd (upd H a (exo a C none)) dx (exd dx [(f, x)])) a (exo a C (some dx)) = upd (upd H dx (exd dx [(f, x)])) a (exo a C (some dx)) := by
    funext b
    by_cases h1 : b = a
    · rw [h1, upd_same, upd_same]
    · rw [upd_ne h1, upd_ne h1]
      by_cases h2 : b = dx
      · rw [h2, upd_same, upd_same]
      · rw [upd_ne h2, upd_ne h2, upd_ne h1]
  rw [e]
  exact S2
theorem mkH1b (S : Sep l H) (T : OexB K C) (hno : PySem.W.findIn K (.ref C) f = some none) (k : ∀ a H', Sep (Er a C [(f, x)] :: l) H' → Q (.ref a) H') : gMkH C (sp_exb K f) [x] H Q := by
  unfold gMkH
  refine ⟨by show 1 ≤ 1000; decide, fun a ha => ⟨a, C, x, rfl, T, hno, upd_same, fun dx hdx hne => ⟨rfl, k a _ (er_close (dx := dx) ?_)⟩⟩⟩
  have hd1 : H dx = none := by rw [upd_ne hne] at hdx; exact hdx
  have S1 := S.new (o := exd dx [(f, x)]) hd1
  have ha1 : upd H dx (exd dx [(f, x)]) a = none := by rw [upd_ne (Ne.symm hne)]; exact ha
  have S2 := S1.new (o := exo a C (some dx)) ha1
  have e : upd (upd (upd H a (exo a C none)) dx (exd dx [(f, x)])) a (exo a C (some dx)) = upd (upd H dx (exd dx [(f, x)])) a (exo a C (some dx)) := by
    funext b
    by_cases h1 : b = a
    · rw [h1, upd_same, upd_same]
    · rw [upd_ne h1, upd_ne h1]
      by_cases h2 : b = dx
      · rw [h2, upd_same, upd_same]
      · rw [upd_ne h2, upd_ne h2, upd_ne h1]
  rw [e]
  exact S2
end
/-- two fields -/
def sp_exi2 (K : PySem.W.Frag) (f g : Str) : Sp := fun vs H Q _ => ∃ (a C : Addr) (x y : V), vs = [.ref a, x, y] ∧ OexC K C ∧ PySem.W.findIn K (.ref C) f = some none ∧ PySem.W.findIn K (.ref C) g = some none ∧ H a = some (exo a C none) ∧
  ∀ dx, H dx = none → dx ≠ a → Q .non (upd (upd (upd H dx (exd dx [(f, x)])) a (exo a C (some dx))) dx (exd dx [(g, y), (f, x)]))
/-- three fields -/
def sp_exb3 (K : PySem.W.Frag) (f g h : Str) : Sp := fun vs H Q _ => ∃ (a C : Addr) (x y z : V), vs = [.ref a, x, y, z] ∧ OexB K C ∧ PySem.W.findIn K (.ref C) f = some none ∧ PySem.W.findIn K (.ref C) g = some none ∧ PySem.W.findIn K (.ref C) h = some none ∧ H a = some (exo a C none) ∧
  ∀ dx, H dx = none → dx ≠ a → Q .non (upd (upd (upd (upd H dx (exd dx [(f, x)])) a (exo a C (some dx))) dx (exd dx [(g, y), (f, x)])) dx (exd dx [(h, z), (g, y), (f, x)]))
theorem sep_made {l : List Asn} {H : Hp} {a C dx : Addr} {fs : List (Str × V)} (S : Sep l H) (ha : H a = none) (hdx : H dx = none) (hne : dx ≠ a) : Sep (At a (exo a C (some dx)) :: At dx (exd dx fs) :: l) (upd (upd (upd H a (exo a C none)) dx (exd dx fs)) a (exo a C (some dx))) := by
  have S1 := S.new (o := exd dx fs) hdx
  have S2 := S1.new (o := exo a C (some dx)) (p := a) (by rw [upd_ne (Ne.symm hne)]; exact ha)
  have e : upd (upd (upd H a (exo a C none)) dx (exd dx fs)) a (exo a C (some dx)) = upd (upd H dx (exd dx fs)) a (exo a C (some dx)) := by
    funext b
    by_cases h1 : b = a
    · rw [h1, upd_same, upd_same]
    · rw [upd_ne h1, upd_ne h1]
      by_cases h2 : b = dx
      · rw [h2, upd_same, upd_same]
      · rw [upd_ne h2, upd_ne h2, upd_ne h1]
  rw [e]
  exact S2
theorem exd_nt {dx : Addr} {fs : List (Str × V)} : ∀ xs, exd dx fs ≠ .tup xs := fun _ => exd_tup
theorem mkH2 {l : List Asn} {H : Hp} {K : PySem.W.Frag} {C : Addr} {f g : Str} {x y : V} {Q : VK} (S : Sep l H) (T : OexC K C) (hf : PySem.W.findIn K (.ref C) f = some none) (hg : PySem.W.findIn K (.ref C) g = some none) (k : ∀ a H', Sep (Er a C [(g, y), (f, x)] :: l) H' → Q (.ref a) H') : gMkH C (sp_exi2 K f g) [x, y] H Q := by
  unfold gMkH
  refine ⟨by show 2 ≤ 1000; decide, fun a ha => ⟨a, C, x, y, rfl, T, hf, hg, upd_same, fun dx hdx hne => ⟨rfl, k a _ (er_close (dx := dx) ?_)⟩⟩⟩
  have hd1 : H dx = none := by rw [upd_ne hne] at hdx; exact hdx
  exact (sep_made (fs := [(f, x)]) S ha hd1 hne).upd (i := 1) rfl exd_nt
theorem mkH3b {l : List Asn} {H : Hp} {K : PySem.W.Frag} {C : Addr} {f g h : Str} {x y z : V} {Q : VK} (S : Sep l H) (T : OexB K C) (hf : PySem.W.findIn K (.ref C) f = some none) (hg : PySem.W.findIn K (.ref C) g = some none) (hh : PySem.W.findIn K (.ref C) h = some none) (k : ∀ a H', Sep (Er a C [(h, z), (g, y), (f, x)] :: l) H' → Q (.ref a) H') : gMkH C (sp_exb3 K f g h) [x, y, z] H Q := by
  unfold gMkH
  refine ⟨by show 3 ≤ 1000; decide, fun a ha => ⟨a, C, x, y, z, rfl, T, hf, hg, hh, upd_same, fun dx hdx hne => ⟨rfl, k a _ (er_close (dx := dx) ?_)⟩⟩⟩
  have hd1 : H dx = none := by rw [upd_ne hne] at hdx; exact hdx
  have S1 := (sep_made (C := C) (fs := [(f, x)]) S ha hd1 hne).upd (i := 1) (o' := exd dx [(g, y), (f, x)]) rfl exd_nt
  exact S1.upd (i := 1) rfl exd_nt
theorem gl_one {l : List Asn} {H : Hp} {K : PySem.W.Frag} {C : Addr} {f : Str} {x : V} {Q : VK} (S : Sep l H) (T : OexC K C) (X : XfC K C) (hno : PySem.W.findIn K (.ref C) f = some none) (k : ∀ H', Sep l H' → Q x H') : gMkH C (sp_exi K f) [x] H fun y H1 => gFldH K f y H1 Q :=
  mkH1 S T hno fun a H' S' => f_er S' (i := 0) rfl X hno (by simp [List.lookup]) (k H' S'.tail)
theorem gl_oneb {l : List Asn} {H : Hp} {K : PySem.W.Frag} {C : Addr} {f : Str} {x : V} {Q : VK} (S : Sep l H) (T : OexB K C) (X : XfC K C) (hno : PySem.W.findIn K (.ref C) f = some none) (k : ∀ H', Sep l H' → Q x H') : gMkH C (sp_exb K f) [x] H fun y H1 => gFldH K f y H1 Q :=
  mkH1b S T hno fun a H' S' => f_er S' (i := 0) rfl X hno (by simp [List.lookup]) (k H' S'.tail)
end
local macro_rules | `(tactic| walk_at "v1") => `(tactic| (first
  | with_reducible refine r_mkH ?_
  | with_reducible refine r_ostC ?_
  | with_reducible refine r_fldH ?_))

def top (i : Nat) : Stmt := PySem.Challenge.pw_countsheld_k33_errors_made.main.body.getD i (.Pass ⟨0, 0, 0, 0⟩)
abbrev s_law_source : Stmt := top 33
theorem sc_law_source : FnScope ["script"] ["script"] (defScope s_law_source) := ⟨rfl, rfl, rfl, by decide +kernel, rfl, by decide +kernel, by decide +kernel⟩
abbrev s_law_mixed : Stmt := top 34
theorem sc_law_mixed : FnScope ["cell", "count", "first"] ["cell", "count"] (defScope s_law_mixed) := ⟨rfl, rfl, rfl, by decide +kernel, rfl, by decide +kernel, by decide +kernel⟩
abbrev s_law_draw : Stmt := top 35
theorem sc_law_draw : FnScope ["source", "size", "at", "cell", "value"] ["source", "size"] (defScope s_law_draw) := ⟨rfl, rfl, rfl, by decide +kernel, rfl, by decide +kernel, by decide +kernel⟩
abbrev s_law_number : Stmt := top 37
theorem sc_law_number : FnScope ["source", "mode", "number", "k"] ["source"] (defScope s_law_number) := ⟨rfl, rfl, rfl, by decide +kernel, rfl, by decide +kernel, by decide +kernel⟩
abbrev s_law_word : Stmt := top 36
theorem sc_law_word : FnScope ["source", "words", "word", "k"] ["source"] (defScope s_law_word) := ⟨rfl, rfl, rfl, by decide +kernel, rfl, by decide +kernel, by decide +kernel⟩
abbrev s_law_value : Stmt := top 38
theorem sc_law_value : FnScope ["source", "mode", "number"] ["source"] (defScope s_law_value) := ⟨rfl, rfl, rfl, by decide +kernel, rfl, by decide +kernel, by decide +kernel⟩
abbrev s_Unfit___init__ : Stmt := inClass (top 8) 0
theorem sc_Unfit___init__ : FnScope ["self", "door", "line"] ["self", "door", "line"] (defScope s_Unfit___init__) := ⟨rfl, rfl, rfl, by decide +kernel, rfl, by decide +kernel, by decide +kernel⟩
abbrev s_Refused___init__ : Stmt := inClass (top 29) 0
theorem sc_Refused___init__ : FnScope ["self", "door", "line", "why"] ["self", "door", "line", "why"] (defScope s_Refused___init__) := ⟨rfl, rfl, rfl, by decide +kernel, rfl, by decide +kernel, by decide +kernel⟩
abbrev s_BadWord___init__ : Stmt := inClass (top 2) 0
theorem sc_BadWord___init__ : FnScope ["self", "word"] ["self", "word"] (defScope s_BadWord___init__) := ⟨rfl, rfl, rfl, by decide +kernel, rfl, by decide +kernel, by decide +kernel⟩
abbrev s_BadNumber___init__ : Stmt := inClass (top 3) 0
theorem sc_BadNumber___init__ : FnScope ["self", "number"] ["self", "number"] (defScope s_BadNumber___init__) := ⟨rfl, rfl, rfl, by decide +kernel, rfl, by decide +kernel, by decide +kernel⟩
abbrev s_BadCounts___init__ : Stmt := inClass (top 4) 0
theorem sc_BadCounts___init__ : FnScope ["self", "at"] ["self", "at"] (defScope s_BadCounts___init__) := ⟨rfl, rfl, rfl, by decide +kernel, rfl, by decide +kernel, by decide +kernel⟩
abbrev s_BadRule___init__ : Stmt := inClass (top 5) 0
theorem sc_BadRule___init__ : FnScope ["self", "what"] ["self", "what"] (defScope s_BadRule___init__) := ⟨rfl, rfl, rfl, by decide +kernel, rfl, by decide +kernel, by decide +kernel⟩
abbrev s_BadRules___init__ : Stmt := inClass (top 6) 0
theorem sc_BadRules___init__ : FnScope ["self", "what"] ["self", "what"] (defScope s_BadRules___init__) := ⟨rfl, rfl, rfl, by decide +kernel, rfl, by decide +kernel, by decide +kernel⟩
abbrev s_BadDoor___init__ : Stmt := inClass (top 7) 0
theorem sc_BadDoor___init__ : FnScope ["self", "at"] ["self", "at"] (defScope s_BadDoor___init__) := ⟨rfl, rfl, rfl, by decide +kernel, rfl, by decide +kernel, by decide +kernel⟩
abbrev s_BadDesk___init__ : Stmt := inClass (top 9) 0
theorem sc_BadDesk___init__ : FnScope ["self", "what"] ["self", "what"] (defScope s_BadDesk___init__) := ⟨rfl, rfl, rfl, by decide +kernel, rfl, by decide +kernel, by decide +kernel⟩
abbrev s_BadText___init__ : Stmt := inClass (top 10) 0
theorem sc_BadText___init__ : FnScope ["self", "at"] ["self", "at"] (defScope s_BadText___init__) := ⟨rfl, rfl, rfl, by decide +kernel, rfl, by decide +kernel, by decide +kernel⟩
abbrev s_NotLoose___init__ : Stmt := inClass (top 11) 0
theorem sc_NotLoose___init__ : FnScope ["self", "kind"] ["self", "kind"] (defScope s_NotLoose___init__) := ⟨rfl, rfl, rfl, by decide +kernel, rfl, by decide +kernel, by decide +kernel⟩
abbrev s_Named___init__ : Stmt := inClass (top 12) 0
theorem sc_Named___init__ : FnScope ["self", "row"] ["self", "row"] (defScope s_Named___init__) := ⟨rfl, rfl, rfl, by decide +kernel, rfl, by decide +kernel, by decide +kernel⟩
abbrev s_Full___init__ : Stmt := inClass (top 13) 0
theorem sc_Full___init__ : FnScope ["self", "owner"] ["self", "owner"] (defScope s_Full___init__) := ⟨rfl, rfl, rfl, by decide +kernel, rfl, by decide +kernel, by decide +kernel⟩
abbrev s_NoPick___init__ : Stmt := inClass (top 14) 0
theorem sc_NoPick___init__ : FnScope ["self", "pick"] ["self", "pick"] (defScope s_NoPick___init__) := ⟨rfl, rfl, rfl, by decide +kernel, rfl, by decide +kernel, by decide +kernel⟩
abbrev s_Broken___init__ : Stmt := inClass (top 15) 0
theorem sc_Broken___init__ : FnScope ["self", "rules"] ["self", "rules"] (defScope s_Broken___init__) := ⟨rfl, rfl, rfl, by decide +kernel, rfl, by decide +kernel, by decide +kernel⟩
abbrev s_BadHistory___init__ : Stmt := inClass (top 16) 0
theorem sc_BadHistory___init__ : FnScope ["self", "at"] ["self", "at"] (defScope s_BadHistory___init__) := ⟨rfl, rfl, rfl, by decide +kernel, rfl, by decide +kernel, by decide +kernel⟩
abbrev s_BadStanding___init__ : Stmt := inClass (top 17) 0
theorem sc_BadStanding___init__ : FnScope ["self", "standing"] ["self", "standing"] (defScope s_BadStanding___init__) := ⟨rfl, rfl, rfl, by decide +kernel, rfl, by decide +kernel, by decide +kernel⟩
abbrev s_BadWay___init__ : Stmt := inClass (top 18) 0
theorem sc_BadWay___init__ : FnScope ["self", "at"] ["self", "at"] (defScope s_BadWay___init__) := ⟨rfl, rfl, rfl, by decide +kernel, rfl, by decide +kernel, by decide +kernel⟩
abbrev s_NoWay___init__ : Stmt := inClass (top 19) 0
theorem sc_NoWay___init__ : FnScope ["self", "standing"] ["self", "standing"] (defScope s_NoWay___init__) := ⟨rfl, rfl, rfl, by decide +kernel, rfl, by decide +kernel, by decide +kernel⟩
abbrev s_TooMany___init__ : Stmt := inClass (top 21) 0
theorem sc_TooMany___init__ : FnScope ["self", "what"] ["self", "what"] (defScope s_TooMany___init__) := ⟨rfl, rfl, rfl, by decide +kernel, rfl, by decide +kernel, by decide +kernel⟩
abbrev s_NoDoor___init__ : Stmt := inClass (top 22) 0
theorem sc_NoDoor___init__ : FnScope ["self", "name"] ["self", "name"] (defScope s_NoDoor___init__) := ⟨rfl, rfl, rfl, by decide +kernel, rfl, by decide +kernel, by decide +kernel⟩
abbrev s_NoBegin___init__ : Stmt := inClass (top 23) 0
theorem sc_NoBegin___init__ : FnScope ["self", "index"] ["self", "index"] (defScope s_NoBegin___init__) := ⟨rfl, rfl, rfl, by decide +kernel, rfl, by decide +kernel, by decide +kernel⟩
abbrev s_NoOwner___init__ : Stmt := inClass (top 24) 0
theorem sc_NoOwner___init__ : FnScope ["self", "owner"] ["self", "owner"] (defScope s_NoOwner___init__) := ⟨rfl, rfl, rfl, by decide +kernel, rfl, by decide +kernel, by decide +kernel⟩
abbrev s_NoRow___init__ : Stmt := inClass (top 25) 0
theorem sc_NoRow___init__ : FnScope ["self", "row"] ["self", "row"] (defScope s_NoRow___init__) := ⟨rfl, rfl, rfl, by decide +kernel, rfl, by decide +kernel, by decide +kernel⟩
abbrev s_NoRule___init__ : Stmt := inClass (top 26) 0
theorem sc_NoRule___init__ : FnScope ["self", "rule"] ["self", "rule"] (defScope s_NoRule___init__) := ⟨rfl, rfl, rfl, by decide +kernel, rfl, by decide +kernel, by decide +kernel⟩
abbrev s_NoDivisor___init__ : Stmt := inClass (top 27) 0
theorem sc_NoDivisor___init__ : FnScope ["self", "word"] ["self", "word"] (defScope s_NoDivisor___init__) := ⟨rfl, rfl, rfl, by decide +kernel, rfl, by decide +kernel, by decide +kernel⟩
abbrev s_Waits___init__ : Stmt := inClass (top 28) 0
theorem sc_Waits___init__ : FnScope ["self", "owner"] ["self", "owner"] (defScope s_Waits___init__) := ⟨rfl, rfl, rfl, by decide +kernel, rfl, by decide +kernel, by decide +kernel⟩
abbrev s_Over___init__ : Stmt := inClass (top 30) 0
theorem sc_Over___init__ : FnScope ["self", "number"] ["self", "number"] (defScope s_Over___init__) := ⟨rfl, rfl, rfl, by decide +kernel, rfl, by decide +kernel, by decide +kernel⟩
abbrev s_Busy___init__ : Stmt := inClass (top 31) 0
theorem sc_Busy___init__ : FnScope ["self", "owner"] ["self", "owner"] (defScope s_Busy___init__) := ⟨rfl, rfl, rfl, by decide +kernel, rfl, by decide +kernel, by decide +kernel⟩
abbrev s_law_values : Stmt := top 43
theorem sc_law_values : FnScope ["one", "two", "three", "made_of", "pair", "triple", "thing"] ["one", "two", "three"] (defScope s_law_values) := ⟨rfl, rfl, rfl, by decide +kernel, rfl, by decide +kernel, by decide +kernel⟩
abbrev s_law_bases : Stmt := top 41
theorem sc_law_bases : FnScope ["e", "found"] ["e"] (defScope s_law_bases) := ⟨rfl, rfl, rfl, by decide +kernel, rfl, by decide +kernel, by decide +kernel⟩
abbrev s_law_first : Stmt := top 39
theorem sc_law_first : FnScope ["e", "found"] ["e"] (defScope s_law_first) := ⟨rfl, rfl, rfl, by decide +kernel, rfl, by decide +kernel, by decide +kernel⟩
abbrev s_law_row : Stmt := top 42
theorem sc_law_row : FnScope ["at", "many", "k"] ["at", "many"] (defScope s_law_row) := ⟨rfl, rfl, rfl, by decide +kernel, rfl, by decide +kernel, by decide +kernel⟩
abbrev s_law_second : Stmt := top 40
theorem sc_law_second : FnScope ["e", "found"] ["e"] (defScope s_law_second) := ⟨rfl, rfl, rfl, by decide +kernel, rfl, by decide +kernel, by decide +kernel⟩
abbrev s_law : Stmt := top 44
theorem sc_law : FnScope ["script", "source", "one", "two", "three", "first", "second", "at"] ["script"] (defScope s_law) := ⟨rfl, rfl, rfl, by decide +kernel, rfl, by decide +kernel, by decide +kernel⟩
structure Ad where
  f_law_source : Addr
  fd_law_source : FuncData
  f_law_mixed : Addr
  fd_law_mixed : FuncData
  f_law_draw : Addr
  fd_law_draw : FuncData
  f_law_number : Addr
  fd_law_number : FuncData
  f_law_word : Addr
  fd_law_word : FuncData
  f_law_value : Addr
  fd_law_value : FuncData
  f_Unfit___init__ : Addr
  fd_Unfit___init__ : FuncData
  f_Refused___init__ : Addr
  fd_Refused___init__ : FuncData
  f_BadWord___init__ : Addr
  fd_BadWord___init__ : FuncData
  f_BadNumber___init__ : Addr
  fd_BadNumber___init__ : FuncData
  f_BadCounts___init__ : Addr
  fd_BadCounts___init__ : FuncData
  f_BadRule___init__ : Addr
  fd_BadRule___init__ : FuncData
  f_BadRules___init__ : Addr
  fd_BadRules___init__ : FuncData
  f_BadDoor___init__ : Addr
  fd_BadDoor___init__ : FuncData
  f_BadDesk___init__ : Addr
  fd_BadDesk___init__ : FuncData
  f_BadText___init__ : Addr
  fd_BadText___init__ : FuncData
  f_NotLoose___init__ : Addr
  fd_NotLoose___init__ : FuncData
  f_Named___init__ : Addr
  fd_Named___init__ : FuncData
  f_Full___init__ : Addr
  fd_Full___init__ : FuncData
  f_NoPick___init__ : Addr
  fd_NoPick___init__ : FuncData
  f_Broken___init__ : Addr
  fd_Broken___init__ : FuncData
  f_BadHistory___init__ : Addr
  fd_BadHistory___init__ : FuncData
  f_BadStanding___init__ : Addr
  fd_BadStanding___init__ : FuncData
  f_BadWay___init__ : Addr
  fd_BadWay___init__ : FuncData
  f_NoWay___init__ : Addr
  fd_NoWay___init__ : FuncData
  f_TooMany___init__ : Addr
  fd_TooMany___init__ : FuncData
  f_NoDoor___init__ : Addr
  fd_NoDoor___init__ : FuncData
  f_NoBegin___init__ : Addr
  fd_NoBegin___init__ : FuncData
  f_NoOwner___init__ : Addr
  fd_NoOwner___init__ : FuncData
  f_NoRow___init__ : Addr
  fd_NoRow___init__ : FuncData
  f_NoRule___init__ : Addr
  fd_NoRule___init__ : FuncData
  f_NoDivisor___init__ : Addr
  fd_NoDivisor___init__ : FuncData
  f_Waits___init__ : Addr
  fd_Waits___init__ : FuncData
  f_Over___init__ : Addr
  fd_Over___init__ : FuncData
  f_Busy___init__ : Addr
  fd_Busy___init__ : FuncData
  f_law_values : Addr
  fd_law_values : FuncData
  f_law_bases : Addr
  fd_law_bases : FuncData
  f_law_first : Addr
  fd_law_first : FuncData
  f_law_row : Addr
  fd_law_row : FuncData
  f_law_second : Addr
  fd_law_second : FuncData
  f_law : Addr
  fd_law : FuncData
  c_CountsheldError : Addr
  c_NotKept : Addr
  c_Unfit : Addr
  c_Refused : Addr
  c_BadWord : Addr
  c_BadNumber : Addr
  c_BadCounts : Addr
  c_BadRule : Addr
  c_BadRules : Addr
  c_BadDoor : Addr
  c_BadDesk : Addr
  c_BadText : Addr
  c_NotLoose : Addr
  c_Named : Addr
  c_Full : Addr
  c_NoPick : Addr
  c_Broken : Addr
  c_BadHistory : Addr
  c_BadStanding : Addr
  c_BadWay : Addr
  c_NoWay : Addr
  c_TooMany : Addr
  c_NoDoor : Addr
  c_NoBegin : Addr
  c_NoOwner : Addr
  c_NoRow : Addr
  c_NoRule : Addr
  c_NoDivisor : Addr
  c_Waits : Addr
  c_Over : Addr
  c_Busy : Addr
structure Txt (K : PySem.W.Frag) (mg : Str → Option Value) (A : Ad) : Prop where
  F_law_source : Fun K "_law_source" "_law_source" s_law_source A.f_law_source A.fd_law_source
  F_law_mixed : Fun K "_law_mixed" "_law_mixed" s_law_mixed A.f_law_mixed A.fd_law_mixed
  F_law_draw : Fun K "_law_draw" "_law_draw" s_law_draw A.f_law_draw A.fd_law_draw
  F_law_number : Fun K "_law_number" "_law_number" s_law_number A.f_law_number A.fd_law_number
  F_law_word : Fun K "_law_word" "_law_word" s_law_word A.f_law_word A.fd_law_word
  F_law_value : Fun K "_law_value" "_law_value" s_law_value A.f_law_value A.fd_law_value
  F_Unfit___init__ : Fun K "__init__" "Unfit.__init__" s_Unfit___init__ A.f_Unfit___init__ A.fd_Unfit___init__
  F_Refused___init__ : Fun K "__init__" "Refused.__init__" s_Refused___init__ A.f_Refused___init__ A.fd_Refused___init__
  F_BadWord___init__ : Fun K "__init__" "BadWord.__init__" s_BadWord___init__ A.f_BadWord___init__ A.fd_BadWord___init__
  F_BadNumber___init__ : Fun K "__init__" "BadNumber.__init__" s_BadNumber___init__ A.f_BadNumber___init__ A.fd_BadNumber___init__
  F_BadCounts___init__ : Fun K "__init__" "BadCounts.__init__" s_BadCounts___init__ A.f_BadCounts___init__ A.fd_BadCounts___init__
  F_BadRule___init__ : Fun K "__init__" "BadRule.__init__" s_BadRule___init__ A.f_BadRule___init__ A.fd_BadRule___init__
  F_BadRules___init__ : Fun K "__init__" "BadRules.__init__" s_BadRules___init__ A.f_BadRules___init__ A.fd_BadRules___init__
  F_BadDoor___init__ : Fun K "__init__" "BadDoor.__init__" s_BadDoor___init__ A.f_BadDoor___init__ A.fd_BadDoor___init__
  F_BadDesk___init__ : Fun K "__init__" "BadDesk.__init__" s_BadDesk___init__ A.f_BadDesk___init__ A.fd_BadDesk___init__
  F_BadText___init__ : Fun K "__init__" "BadText.__init__" s_BadText___init__ A.f_BadText___init__ A.fd_BadText___init__
  F_NotLoose___init__ : Fun K "__init__" "NotLoose.__init__" s_NotLoose___init__ A.f_NotLoose___init__ A.fd_NotLoose___init__
  F_Named___init__ : Fun K "__init__" "Named.__init__" s_Named___init__ A.f_Named___init__ A.fd_Named___init__
  F_Full___init__ : Fun K "__init__" "Full.__init__" s_Full___init__ A.f_Full___init__ A.fd_Full___init__
  F_NoPick___init__ : Fun K "__init__" "NoPick.__init__" s_NoPick___init__ A.f_NoPick___init__ A.fd_NoPick___init__
  F_Broken___init__ : Fun K "__init__" "Broken.__init__" s_Broken___init__ A.f_Broken___init__ A.fd_Broken___init__
  F_BadHistory___init__ : Fun K "__init__" "BadHistory.__init__" s_BadHistory___init__ A.f_BadHistory___init__ A.fd_BadHistory___init__
  F_BadStanding___init__ : Fun K "__init__" "BadStanding.__init__" s_BadStanding___init__ A.f_BadStanding___init__ A.fd_BadStanding___init__
  F_BadWay___init__ : Fun K "__init__" "BadWay.__init__" s_BadWay___init__ A.f_BadWay___init__ A.fd_BadWay___init__
  F_NoWay___init__ : Fun K "__init__" "NoWay.__init__" s_NoWay___init__ A.f_NoWay___init__ A.fd_NoWay___init__
  F_TooMany___init__ : Fun K "__init__" "TooMany.__init__" s_TooMany___init__ A.f_TooMany___init__ A.fd_TooMany___init__
  F_NoDoor___init__ : Fun K "__init__" "NoDoor.__init__" s_NoDoor___init__ A.f_NoDoor___init__ A.fd_NoDoor___init__
  F_NoBegin___init__ : Fun K "__init__" "NoBegin.__init__" s_NoBegin___init__ A.f_NoBegin___init__ A.fd_NoBegin___init__
  F_NoOwner___init__ : Fun K "__init__" "NoOwner.__init__" s_NoOwner___init__ A.f_NoOwner___init__ A.fd_NoOwner___init__
  F_NoRow___init__ : Fun K "__init__" "NoRow.__init__" s_NoRow___init__ A.f_NoRow___init__ A.fd_NoRow___init__
  F_NoRule___init__ : Fun K "__init__" "NoRule.__init__" s_NoRule___init__ A.f_NoRule___init__ A.fd_NoRule___init__
  F_NoDivisor___init__ : Fun K "__init__" "NoDivisor.__init__" s_NoDivisor___init__ A.f_NoDivisor___init__ A.fd_NoDivisor___init__
  F_Waits___init__ : Fun K "__init__" "Waits.__init__" s_Waits___init__ A.f_Waits___init__ A.fd_Waits___init__
  F_Over___init__ : Fun K "__init__" "Over.__init__" s_Over___init__ A.f_Over___init__ A.fd_Over___init__
  F_Busy___init__ : Fun K "__init__" "Busy.__init__" s_Busy___init__ A.f_Busy___init__ A.fd_Busy___init__
  F_law_values : Fun K "_law_values" "_law_values" s_law_values A.f_law_values A.fd_law_values
  F_law_bases : Fun K "_law_bases" "_law_bases" s_law_bases A.f_law_bases A.fd_law_bases
  F_law_first : Fun K "_law_first" "_law_first" s_law_first A.f_law_first A.fd_law_first
  F_law_row : Fun K "_law_row" "_law_row" s_law_row A.f_law_row A.fd_law_row
  F_law_second : Fun K "_law_second" "_law_second" s_law_second A.f_law_second A.fd_law_second
  F_law : Fun K "law" "law" s_law A.f_law A.fd_law
  vm_CountsheldError : mg "CountsheldError" = some (.ref A.c_CountsheldError)
  xk_CountsheldError : PySem.W.keepIn K (.ref A.c_CountsheldError) = true
  xq_CountsheldError : PySem.W.excIn K A.c_CountsheldError [.type "ValueError", .type "Exception", .type "BaseException", .type "object"] "ValueError.__new__" = true
  vm_NotKept : mg "NotKept" = some (.ref A.c_NotKept)
  xk_NotKept : PySem.W.keepIn K (.ref A.c_NotKept) = true
  xq_NotKept : PySem.W.excIn K A.c_NotKept [.type "ValueError", .type "Exception", .type "BaseException", .type "object"] "ValueError.__new__" = true
  vm_Unfit : mg "Unfit" = some (.ref A.c_Unfit)
  ox_Unfit : OexC K A.c_Unfit
  oi_Unfit : PySem.W.findIn K (.ref A.c_Unfit) "__init__" = some (some (.ref A.f_Unfit___init__))
  ot_Unfit : PySem.W.typeIn K (.ref A.f_Unfit___init__) = some (.type "function")
  xn_Unfit_door : PySem.W.findIn K (.ref A.c_Unfit) "door" = some none
  xn_Unfit_line : PySem.W.findIn K (.ref A.c_Unfit) "line" = some none
  vm_Refused : mg "Refused" = some (.ref A.c_Refused)
  ob_Refused : OexB K A.c_Refused
  oi_Refused : PySem.W.findIn K (.ref A.c_Refused) "__init__" = some (some (.ref A.f_Refused___init__))
  ot_Refused : PySem.W.typeIn K (.ref A.f_Refused___init__) = some (.type "function")
  xn_Refused_door : PySem.W.findIn K (.ref A.c_Refused) "door" = some none
  xn_Refused_line : PySem.W.findIn K (.ref A.c_Refused) "line" = some none
  xn_Refused_why : PySem.W.findIn K (.ref A.c_Refused) "why" = some none
  vm_BadWord : mg "BadWord" = some (.ref A.c_BadWord)
  ox_BadWord : OexC K A.c_BadWord
  oi_BadWord : PySem.W.findIn K (.ref A.c_BadWord) "__init__" = some (some (.ref A.f_BadWord___init__))
  ot_BadWord : PySem.W.typeIn K (.ref A.f_BadWord___init__) = some (.type "function")
  xn_BadWord_word : PySem.W.findIn K (.ref A.c_BadWord) "word" = some none
  vm_BadNumber : mg "BadNumber" = some (.ref A.c_BadNumber)
  ox_BadNumber : OexC K A.c_BadNumber
  oi_BadNumber : PySem.W.findIn K (.ref A.c_BadNumber) "__init__" = some (some (.ref A.f_BadNumber___init__))
  ot_BadNumber : PySem.W.typeIn K (.ref A.f_BadNumber___init__) = some (.type "function")
  xn_BadNumber_number : PySem.W.findIn K (.ref A.c_BadNumber) "number" = some none
  vm_BadCounts : mg "BadCounts" = some (.ref A.c_BadCounts)
  ox_BadCounts : OexC K A.c_BadCounts
  oi_BadCounts : PySem.W.findIn K (.ref A.c_BadCounts) "__init__" = some (some (.ref A.f_BadCounts___init__))
  ot_BadCounts : PySem.W.typeIn K (.ref A.f_BadCounts___init__) = some (.type "function")
  xn_BadCounts_at : PySem.W.findIn K (.ref A.c_BadCounts) "at" = some none
  vm_BadRule : mg "BadRule" = some (.ref A.c_BadRule)
  ox_BadRule : OexC K A.c_BadRule
  oi_BadRule : PySem.W.findIn K (.ref A.c_BadRule) "__init__" = some (some (.ref A.f_BadRule___init__))
  ot_BadRule : PySem.W.typeIn K (.ref A.f_BadRule___init__) = some (.type "function")
  xn_BadRule_what : PySem.W.findIn K (.ref A.c_BadRule) "what" = some none
  vm_BadRules : mg "BadRules" = some (.ref A.c_BadRules)
  ox_BadRules : OexC K A.c_BadRules
  oi_BadRules : PySem.W.findIn K (.ref A.c_BadRules) "__init__" = some (some (.ref A.f_BadRules___init__))
  ot_BadRules : PySem.W.typeIn K (.ref A.f_BadRules___init__) = some (.type "function")
  xn_BadRules_what : PySem.W.findIn K (.ref A.c_BadRules) "what" = some none
  vm_BadDoor : mg "BadDoor" = some (.ref A.c_BadDoor)
  ox_BadDoor : OexC K A.c_BadDoor
  oi_BadDoor : PySem.W.findIn K (.ref A.c_BadDoor) "__init__" = some (some (.ref A.f_BadDoor___init__))
  ot_BadDoor : PySem.W.typeIn K (.ref A.f_BadDoor___init__) = some (.type "function")
  xn_BadDoor_at : PySem.W.findIn K (.ref A.c_BadDoor) "at" = some none
  vm_BadDesk : mg "BadDesk" = some (.ref A.c_BadDesk)
  ox_BadDesk : OexC K A.c_BadDesk
  oi_BadDesk : PySem.W.findIn K (.ref A.c_BadDesk) "__init__" = some (some (.ref A.f_BadDesk___init__))
  ot_BadDesk : PySem.W.typeIn K (.ref A.f_BadDesk___init__) = some (.type "function")
  xn_BadDesk_what : PySem.W.findIn K (.ref A.c_BadDesk) "what" = some none
  vm_BadText : mg "BadText" = some (.ref A.c_BadText)
  ox_BadText : OexC K A.c_BadText
  oi_BadText : PySem.W.findIn K (.ref A.c_BadText) "__init__" = some (some (.ref A.f_BadText___init__))
  ot_BadText : PySem.W.typeIn K (.ref A.f_BadText___init__) = some (.type "function")
  xn_BadText_at : PySem.W.findIn K (.ref A.c_BadText) "at" = some none
  vm_NotLoose : mg "NotLoose" = some (.ref A.c_NotLoose)
  ox_NotLoose : OexC K A.c_NotLoose
  oi_NotLoose : PySem.W.findIn K (.ref A.c_NotLoose) "__init__" = some (some (.ref A.f_NotLoose___init__))
  ot_NotLoose : PySem.W.typeIn K (.ref A.f_NotLoose___init__) = some (.type "function")
  xn_NotLoose_kind : PySem.W.findIn K (.ref A.c_NotLoose) "kind" = some none
  vm_Named : mg "Named" = some (.ref A.c_Named)
  ox_Named : OexC K A.c_Named
  oi_Named : PySem.W.findIn K (.ref A.c_Named) "__init__" = some (some (.ref A.f_Named___init__))
  ot_Named : PySem.W.typeIn K (.ref A.f_Named___init__) = some (.type "function")
  xn_Named_row : PySem.W.findIn K (.ref A.c_Named) "row" = some none
  vm_Full : mg "Full" = some (.ref A.c_Full)
  ox_Full : OexC K A.c_Full
  oi_Full : PySem.W.findIn K (.ref A.c_Full) "__init__" = some (some (.ref A.f_Full___init__))
  ot_Full : PySem.W.typeIn K (.ref A.f_Full___init__) = some (.type "function")
  xn_Full_owner : PySem.W.findIn K (.ref A.c_Full) "owner" = some none
  vm_NoPick : mg "NoPick" = some (.ref A.c_NoPick)
  ox_NoPick : OexC K A.c_NoPick
  oi_NoPick : PySem.W.findIn K (.ref A.c_NoPick) "__init__" = some (some (.ref A.f_NoPick___init__))
  ot_NoPick : PySem.W.typeIn K (.ref A.f_NoPick___init__) = some (.type "function")
  xn_NoPick_pick : PySem.W.findIn K (.ref A.c_NoPick) "pick" = some none
  vm_Broken : mg "Broken" = some (.ref A.c_Broken)
  ox_Broken : OexC K A.c_Broken
  oi_Broken : PySem.W.findIn K (.ref A.c_Broken) "__init__" = some (some (.ref A.f_Broken___init__))
  ot_Broken : PySem.W.typeIn K (.ref A.f_Broken___init__) = some (.type "function")
  xn_Broken_rules : PySem.W.findIn K (.ref A.c_Broken) "rules" = some none
  vm_BadHistory : mg "BadHistory" = some (.ref A.c_BadHistory)
  ox_BadHistory : OexC K A.c_BadHistory
  oi_BadHistory : PySem.W.findIn K (.ref A.c_BadHistory) "__init__" = some (some (.ref A.f_BadHistory___init__))
  ot_BadHistory : PySem.W.typeIn K (.ref A.f_BadHistory___init__) = some (.type "function")
  xn_BadHistory_at : PySem.W.findIn K (.ref A.c_BadHistory) "at" = some none
  vm_BadStanding : mg "BadStanding" = some (.ref A.c_BadStanding)
  ox_BadStanding : OexC K A.c_BadStanding
  oi_BadStanding : PySem.W.findIn K (.ref A.c_BadStanding) "__init__" = some (some (.ref A.f_BadStanding___init__))
  ot_BadStanding : PySem.W.typeIn K (.ref A.f_BadStanding___init__) = some (.type "function")
  xn_BadStanding_standing : PySem.W.findIn K (.ref A.c_BadStanding) "standing" = some none
  vm_BadWay : mg "BadWay" = some (.ref A.c_BadWay)
  ox_BadWay : OexC K A.c_BadWay
  oi_BadWay : PySem.W.findIn K (.ref A.c_BadWay) "__init__" = some (some (.ref A.f_BadWay___init__))
  ot_BadWay : PySem.W.typeIn K (.ref A.f_BadWay___init__) = some (.type "function")
  xn_BadWay_at : PySem.W.findIn K (.ref A.c_BadWay) "at" = some none
  vm_NoWay : mg "NoWay" = some (.ref A.c_NoWay)
  ox_NoWay : OexC K A.c_NoWay
  oi_NoWay : PySem.W.findIn K (.ref A.c_NoWay) "__init__" = some (some (.ref A.f_NoWay___init__))
  ot_NoWay : PySem.W.typeIn K (.ref A.f_NoWay___init__) = some (.type "function")
  xn_NoWay_standing : PySem.W.findIn K (.ref A.c_NoWay) "standing" = some none
  vm_TooMany : mg "TooMany" = some (.ref A.c_TooMany)
  ox_TooMany : OexC K A.c_TooMany
  oi_TooMany : PySem.W.findIn K (.ref A.c_TooMany) "__init__" = some (some (.ref A.f_TooMany___init__))
  ot_TooMany : PySem.W.typeIn K (.ref A.f_TooMany___init__) = some (.type "function")
  xn_TooMany_what : PySem.W.findIn K (.ref A.c_TooMany) "what" = some none
  vm_NoDoor : mg "NoDoor" = some (.ref A.c_NoDoor)
  ob_NoDoor : OexB K A.c_NoDoor
  oi_NoDoor : PySem.W.findIn K (.ref A.c_NoDoor) "__init__" = some (some (.ref A.f_NoDoor___init__))
  ot_NoDoor : PySem.W.typeIn K (.ref A.f_NoDoor___init__) = some (.type "function")
  xn_NoDoor_name : PySem.W.findIn K (.ref A.c_NoDoor) "name" = some none
  vm_NoBegin : mg "NoBegin" = some (.ref A.c_NoBegin)
  ob_NoBegin : OexB K A.c_NoBegin
  oi_NoBegin : PySem.W.findIn K (.ref A.c_NoBegin) "__init__" = some (some (.ref A.f_NoBegin___init__))
  ot_NoBegin : PySem.W.typeIn K (.ref A.f_NoBegin___init__) = some (.type "function")
  xn_NoBegin_index : PySem.W.findIn K (.ref A.c_NoBegin) "index" = some none
  vm_NoOwner : mg "NoOwner" = some (.ref A.c_NoOwner)
  ob_NoOwner : OexB K A.c_NoOwner
  oi_NoOwner : PySem.W.findIn K (.ref A.c_NoOwner) "__init__" = some (some (.ref A.f_NoOwner___init__))
  ot_NoOwner : PySem.W.typeIn K (.ref A.f_NoOwner___init__) = some (.type "function")
  xn_NoOwner_owner : PySem.W.findIn K (.ref A.c_NoOwner) "owner" = some none
  vm_NoRow : mg "NoRow" = some (.ref A.c_NoRow)
  ob_NoRow : OexB K A.c_NoRow
  oi_NoRow : PySem.W.findIn K (.ref A.c_NoRow) "__init__" = some (some (.ref A.f_NoRow___init__))
  ot_NoRow : PySem.W.typeIn K (.ref A.f_NoRow___init__) = some (.type "function")
  xn_NoRow_row : PySem.W.findIn K (.ref A.c_NoRow) "row" = some none
  vm_NoRule : mg "NoRule" = some (.ref A.c_NoRule)
  ob_NoRule : OexB K A.c_NoRule
  oi_NoRule : PySem.W.findIn K (.ref A.c_NoRule) "__init__" = some (some (.ref A.f_NoRule___init__))
  ot_NoRule : PySem.W.typeIn K (.ref A.f_NoRule___init__) = some (.type "function")
  xn_NoRule_rule : PySem.W.findIn K (.ref A.c_NoRule) "rule" = some none
  vm_NoDivisor : mg "NoDivisor" = some (.ref A.c_NoDivisor)
  ob_NoDivisor : OexB K A.c_NoDivisor
  oi_NoDivisor : PySem.W.findIn K (.ref A.c_NoDivisor) "__init__" = some (some (.ref A.f_NoDivisor___init__))
  ot_NoDivisor : PySem.W.typeIn K (.ref A.f_NoDivisor___init__) = some (.type "function")
  xn_NoDivisor_word : PySem.W.findIn K (.ref A.c_NoDivisor) "word" = some none
  vm_Waits : mg "Waits" = some (.ref A.c_Waits)
  ob_Waits : OexB K A.c_Waits
  oi_Waits : PySem.W.findIn K (.ref A.c_Waits) "__init__" = some (some (.ref A.f_Waits___init__))
  ot_Waits : PySem.W.typeIn K (.ref A.f_Waits___init__) = some (.type "function")
  xn_Waits_owner : PySem.W.findIn K (.ref A.c_Waits) "owner" = some none
  vm_Over : mg "Over" = some (.ref A.c_Over)
  ob_Over : OexB K A.c_Over
  oi_Over : PySem.W.findIn K (.ref A.c_Over) "__init__" = some (some (.ref A.f_Over___init__))
  ot_Over : PySem.W.typeIn K (.ref A.f_Over___init__) = some (.type "function")
  xn_Over_number : PySem.W.findIn K (.ref A.c_Over) "number" = some none
  vm_Busy : mg "Busy" = some (.ref A.c_Busy)
  ob_Busy : OexB K A.c_Busy
  oi_Busy : PySem.W.findIn K (.ref A.c_Busy) "__init__" = some (some (.ref A.f_Busy___init__))
  ot_Busy : PySem.W.typeIn K (.ref A.f_Busy___init__) = some (.type "function")
  xn_Busy_owner : PySem.W.findIn K (.ref A.c_Busy) "owner" = some none
  ek_Unfit : EcK K A.c_Unfit [.ref A.c_CountsheldError, .type "ValueError", .type "Exception", .type "BaseException", .type "object"]
  ek_Refused : EcK K A.c_Refused [.type "RuntimeError", .type "Exception", .type "BaseException", .type "object"]
  ek_BadWord : EcK K A.c_BadWord [.ref A.c_CountsheldError, .type "ValueError", .type "Exception", .type "BaseException", .type "object"]
  ek_BadNumber : EcK K A.c_BadNumber [.ref A.c_CountsheldError, .type "ValueError", .type "Exception", .type "BaseException", .type "object"]
  ek_BadCounts : EcK K A.c_BadCounts [.ref A.c_CountsheldError, .type "ValueError", .type "Exception", .type "BaseException", .type "object"]
  ek_BadRule : EcK K A.c_BadRule [.ref A.c_CountsheldError, .type "ValueError", .type "Exception", .type "BaseException", .type "object"]
  ek_BadRules : EcK K A.c_BadRules [.ref A.c_CountsheldError, .type "ValueError", .type "Exception", .type "BaseException", .type "object"]
  ek_BadDoor : EcK K A.c_BadDoor [.ref A.c_CountsheldError, .type "ValueError", .type "Exception", .type "BaseException", .type "object"]
  ek_BadDesk : EcK K A.c_BadDesk [.ref A.c_CountsheldError, .type "ValueError", .type "Exception", .type "BaseException", .type "object"]
  ek_BadText : EcK K A.c_BadText [.ref A.c_CountsheldError, .type "ValueError", .type "Exception", .type "BaseException", .type "object"]
  ek_NotLoose : EcK K A.c_NotLoose [.ref A.c_CountsheldError, .type "ValueError", .type "Exception", .type "BaseException", .type "object"]
  ek_Named : EcK K A.c_Named [.ref A.c_CountsheldError, .type "ValueError", .type "Exception", .type "BaseException", .type "object"]
  ek_Full : EcK K A.c_Full [.ref A.c_CountsheldError, .type "ValueError", .type "Exception", .type "BaseException", .type "object"]
  ek_NoPick : EcK K A.c_NoPick [.ref A.c_CountsheldError, .type "ValueError", .type "Exception", .type "BaseException", .type "object"]
  ek_Broken : EcK K A.c_Broken [.ref A.c_CountsheldError, .type "ValueError", .type "Exception", .type "BaseException", .type "object"]
  ek_BadHistory : EcK K A.c_BadHistory [.ref A.c_CountsheldError, .type "ValueError", .type "Exception", .type "BaseException", .type "object"]
  ek_BadStanding : EcK K A.c_BadStanding [.ref A.c_CountsheldError, .type "ValueError", .type "Exception", .type "BaseException", .type "object"]
  ek_BadWay : EcK K A.c_BadWay [.ref A.c_CountsheldError, .type "ValueError", .type "Exception", .type "BaseException", .type "object"]
  ek_NoWay : EcK K A.c_NoWay [.ref A.c_CountsheldError, .type "ValueError", .type "Exception", .type "BaseException", .type "object"]
  ek_TooMany : EcK K A.c_TooMany [.ref A.c_CountsheldError, .type "ValueError", .type "Exception", .type "BaseException", .type "object"]
  ek_NoDoor : EcK K A.c_NoDoor [.type "LookupError", .type "Exception", .type "BaseException", .type "object"]
  ek_NoBegin : EcK K A.c_NoBegin [.type "LookupError", .type "Exception", .type "BaseException", .type "object"]
  ek_NoOwner : EcK K A.c_NoOwner [.type "LookupError", .type "Exception", .type "BaseException", .type "object"]
  ek_NoRow : EcK K A.c_NoRow [.type "LookupError", .type "Exception", .type "BaseException", .type "object"]
  ek_NoRule : EcK K A.c_NoRule [.type "LookupError", .type "Exception", .type "BaseException", .type "object"]
  ek_NoDivisor : EcK K A.c_NoDivisor [.type "ZeroDivisionError", .type "ArithmeticError", .type "Exception", .type "BaseException", .type "object"]
  ek_Waits : EcK K A.c_Waits [.type "RuntimeError", .type "Exception", .type "BaseException", .type "object"]
  ek_Over : EcK K A.c_Over [.type "RuntimeError", .type "Exception", .type "BaseException", .type "object"]
  ek_Busy : EcK K A.c_Busy [.type "RuntimeError", .type "Exception", .type "BaseException", .type "object"]
  ek_CountsheldError : EcK K A.c_CountsheldError [.type "ValueError", .type "Exception", .type "BaseException", .type "object"]
  ek_NotKept : EcK K A.c_NotKept [.ref A.c_CountsheldError, .type "ValueError", .type "Exception", .type "BaseException", .type "object"]
  cnd : ([A.c_CountsheldError, A.c_BadWord, A.c_BadNumber, A.c_BadCounts, A.c_BadRule, A.c_BadRules, A.c_BadDoor, A.c_Unfit, A.c_BadDesk, A.c_BadText, A.c_NotLoose, A.c_Named, A.c_Full, A.c_NoPick, A.c_Broken, A.c_BadHistory, A.c_BadStanding, A.c_BadWay, A.c_NoWay, A.c_NotKept, A.c_TooMany, A.c_NoDoor, A.c_NoBegin, A.c_NoOwner, A.c_NoRow, A.c_NoRule, A.c_NoDivisor, A.c_Waits, A.c_Refused, A.c_Over, A.c_Busy] : List Addr).Nodup
  xf_Unfit : XfC K A.c_Unfit
  xf_Refused : XfC K A.c_Refused
  xf_BadWord : XfC K A.c_BadWord
  xf_BadNumber : XfC K A.c_BadNumber
  xf_BadCounts : XfC K A.c_BadCounts
  xf_BadRule : XfC K A.c_BadRule
  xf_BadRules : XfC K A.c_BadRules
  xf_BadDoor : XfC K A.c_BadDoor
  xf_BadDesk : XfC K A.c_BadDesk
  xf_BadText : XfC K A.c_BadText
  xf_NotLoose : XfC K A.c_NotLoose
  xf_Named : XfC K A.c_Named
  xf_Full : XfC K A.c_Full
  xf_NoPick : XfC K A.c_NoPick
  xf_Broken : XfC K A.c_Broken
  xf_BadHistory : XfC K A.c_BadHistory
  xf_BadStanding : XfC K A.c_BadStanding
  xf_BadWay : XfC K A.c_BadWay
  xf_NoWay : XfC K A.c_NoWay
  xf_TooMany : XfC K A.c_TooMany
  xf_NoDoor : XfC K A.c_NoDoor
  xf_NoBegin : XfC K A.c_NoBegin
  xf_NoOwner : XfC K A.c_NoOwner
  xf_NoRow : XfC K A.c_NoRow
  xf_NoRule : XfC K A.c_NoRule
  xf_NoDivisor : XfC K A.c_NoDivisor
  xf_Waits : XfC K A.c_Waits
  xf_Over : XfC K A.c_Over
  xf_Busy : XfC K A.c_Busy
  xf_NotKept : XfC K A.c_NotKept
  xc_Unfit : ExcC K A.c_Unfit
  xc_Refused : ExcC K A.c_Refused
  xc_BadWord : ExcC K A.c_BadWord
  xc_BadNumber : ExcC K A.c_BadNumber
  xc_BadCounts : ExcC K A.c_BadCounts
  xc_BadRule : ExcC K A.c_BadRule
  xc_BadRules : ExcC K A.c_BadRules
  xc_BadDoor : ExcC K A.c_BadDoor
  xc_BadDesk : ExcC K A.c_BadDesk
  xc_BadText : ExcC K A.c_BadText
  xc_NotLoose : ExcC K A.c_NotLoose
  xc_Named : ExcC K A.c_Named
  xc_Full : ExcC K A.c_Full
  xc_NoPick : ExcC K A.c_NoPick
  xc_Broken : ExcC K A.c_Broken
  xc_BadHistory : ExcC K A.c_BadHistory
  xc_BadStanding : ExcC K A.c_BadStanding
  xc_BadWay : ExcC K A.c_BadWay
  xc_NoWay : ExcC K A.c_NoWay
  xc_TooMany : ExcC K A.c_TooMany
  xc_NoDoor : ExcC K A.c_NoDoor
  xc_NoBegin : ExcC K A.c_NoBegin
  xc_NoOwner : ExcC K A.c_NoOwner
  xc_NoRow : ExcC K A.c_NoRow
  xc_NoRule : ExcC K A.c_NoRule
  xc_NoDivisor : ExcC K A.c_NoDivisor
  xc_Waits : ExcC K A.c_Waits
  xc_Over : ExcC K A.c_Over
  xc_Busy : ExcC K A.c_Busy
  xc_NotKept : ExcC K A.c_NotKept
  m_law_source : mg "_law_source" = some (.ref A.f_law_source)
  k_law_source : PySem.W.keepIn K (.ref A.f_law_source) = true
  b_law_source : Binds K A.fd_law_source ["script"] []
  m_law_mixed : mg "_law_mixed" = some (.ref A.f_law_mixed)
  k_law_mixed : PySem.W.keepIn K (.ref A.f_law_mixed) = true
  b_law_mixed : Binds K A.fd_law_mixed ["cell", "count"] []
  m_law_draw : mg "_law_draw" = some (.ref A.f_law_draw)
  k_law_draw : PySem.W.keepIn K (.ref A.f_law_draw) = true
  b_law_draw : Binds K A.fd_law_draw ["source", "size"] []
  m_law_number : mg "_law_number" = some (.ref A.f_law_number)
  k_law_number : PySem.W.keepIn K (.ref A.f_law_number) = true
  b_law_number : Binds K A.fd_law_number ["source"] []
  m_law_word : mg "_law_word" = some (.ref A.f_law_word)
  k_law_word : PySem.W.keepIn K (.ref A.f_law_word) = true
  b_law_word : Binds K A.fd_law_word ["source"] []
  m_law_value : mg "_law_value" = some (.ref A.f_law_value)
  k_law_value : PySem.W.keepIn K (.ref A.f_law_value) = true
  b_law_value : Binds K A.fd_law_value ["source"] []
  b_Unfit___init__ : Binds K A.fd_Unfit___init__ ["self", "door", "line"] []
  b_Refused___init__ : Binds K A.fd_Refused___init__ ["self", "door", "line", "why"] []
  b_BadWord___init__ : Binds K A.fd_BadWord___init__ ["self", "word"] []
  b_BadNumber___init__ : Binds K A.fd_BadNumber___init__ ["self", "number"] []
  b_BadCounts___init__ : Binds K A.fd_BadCounts___init__ ["self", "at"] []
  b_BadRule___init__ : Binds K A.fd_BadRule___init__ ["self", "what"] []
  b_BadRules___init__ : Binds K A.fd_BadRules___init__ ["self", "what"] []
  b_BadDoor___init__ : Binds K A.fd_BadDoor___init__ ["self", "at"] []
  b_BadDesk___init__ : Binds K A.fd_BadDesk___init__ ["self", "what"] []
  b_BadText___init__ : Binds K A.fd_BadText___init__ ["self", "at"] []
  b_NotLoose___init__ : Binds K A.fd_NotLoose___init__ ["self", "kind"] []
  b_Named___init__ : Binds K A.fd_Named___init__ ["self", "row"] []
  b_Full___init__ : Binds K A.fd_Full___init__ ["self", "owner"] []
  b_NoPick___init__ : Binds K A.fd_NoPick___init__ ["self", "pick"] []
  b_Broken___init__ : Binds K A.fd_Broken___init__ ["self", "rules"] []
  b_BadHistory___init__ : Binds K A.fd_BadHistory___init__ ["self", "at"] []
  b_BadStanding___init__ : Binds K A.fd_BadStanding___init__ ["self", "standing"] []
  b_BadWay___init__ : Binds K A.fd_BadWay___init__ ["self", "at"] []
  b_NoWay___init__ : Binds K A.fd_NoWay___init__ ["self", "standing"] []
  b_TooMany___init__ : Binds K A.fd_TooMany___init__ ["self", "what"] []
  b_NoDoor___init__ : Binds K A.fd_NoDoor___init__ ["self", "name"] []
  b_NoBegin___init__ : Binds K A.fd_NoBegin___init__ ["self", "index"] []
  b_NoOwner___init__ : Binds K A.fd_NoOwner___init__ ["self", "owner"] []
  b_NoRow___init__ : Binds K A.fd_NoRow___init__ ["self", "row"] []
  b_NoRule___init__ : Binds K A.fd_NoRule___init__ ["self", "rule"] []
  b_NoDivisor___init__ : Binds K A.fd_NoDivisor___init__ ["self", "word"] []
  b_Waits___init__ : Binds K A.fd_Waits___init__ ["self", "owner"] []
  b_Over___init__ : Binds K A.fd_Over___init__ ["self", "number"] []
  b_Busy___init__ : Binds K A.fd_Busy___init__ ["self", "owner"] []
  m_law_values : mg "_law_values" = some (.ref A.f_law_values)
  k_law_values : PySem.W.keepIn K (.ref A.f_law_values) = true
  b_law_values : Binds K A.fd_law_values ["one", "two", "three"] []
  m_law_bases : mg "_law_bases" = some (.ref A.f_law_bases)
  k_law_bases : PySem.W.keepIn K (.ref A.f_law_bases) = true
  b_law_bases : Binds K A.fd_law_bases ["e"] []
  m_law_first : mg "_law_first" = some (.ref A.f_law_first)
  k_law_first : PySem.W.keepIn K (.ref A.f_law_first) = true
  b_law_first : Binds K A.fd_law_first ["e"] []
  m_law_row : mg "_law_row" = some (.ref A.f_law_row)
  k_law_row : PySem.W.keepIn K (.ref A.f_law_row) = true
  b_law_row : Binds K A.fd_law_row ["at", "many"] []
  m_law_second : mg "_law_second" = some (.ref A.f_law_second)
  k_law_second : PySem.W.keepIn K (.ref A.f_law_second) = true
  b_law_second : Binds K A.fd_law_second ["e"] []
  m_law : mg "law" = some (.ref A.f_law)
  k_law : PySem.W.keepIn K (.ref A.f_law) = true
  b_law : Binds K A.fd_law ["script"] []
  n_LookupError : mg "LookupError" = none
  n_RuntimeError : mg "RuntimeError" = none
  n_ValueError : mg "ValueError" = none
  n_ZeroDivisionError : mg "ZeroDivisionError" = none
  n_abs : mg "abs" = none
  n_bool : mg "bool" = none
  n_int : mg "int" = none
  n_isinstance : mg "isinstance" = none
  n_len : mg "len" = none
  n_list : mg "list" = none
  n_range : mg "range" = none
section
variable {P : Program} {w : World} {K : PySem.W.Frag} {mg : Str → Option Value} {base : Heap} {A : Ad}
/-! law_source -/
def sp_law_source (K : PySem.W.Frag) : Sp := fun vs H Q _ => ∃ (a : Addr) (ns : List Int) (fr : List Asn), vs = [.ref a] ∧ SqL K H a (ns.map V.int) ∧ ns.length ≤ 63 ∧ Sep fr H ∧ ∀ s H', Sep (Src s :: fr) H' → Q (.ref s) H'
theorem s_sq {l : List Asn} {H : Hp} {K : PySem.W.Frag} {Q : VK} {p : Addr} {xs : List V} {lo hi : Option Int} (hS : SqL K H p xs) (S : Sep l H) (k : ∀ d H', Sep (At d (.lst (cutV xs lo hi)) :: l) H' → Q (.ref d) H') : gSl K (.ref p) lo hi H Q := .inl ⟨p, xs, rfl, hS, fun d hd => k d _ (S.new hd)⟩
theorem cut_map {α : Type} (f : α → V) (as : List α) (lo hi : Option Int) : ∃ bs : List α, cutV (as.map f) lo hi = bs.map f ∧ bs.length ≤ as.length := by
  refine ⟨(as.drop (HT.sIx (as.map f).length 0 lo)).take (HT.sIx (as.map f).length (as.map f).length hi - HT.sIx (as.map f).length 0 lo), ?_, ?_⟩
  · unfold cutV
    rw [List.map_take, List.map_drop]
  · rw [List.length_take, List.length_drop]
    omega
theorem ok_law_source (T : Txt K mg A) : FnOk P w K mg base CX0 1 A.f_law_source A.fd_law_source ["script"] (sp_law_source K) := by
  refine T.F_law_source.ok sc_law_source (fun vs H Q E h => ?_) (fun cdv A' outer s0 H vs Q E hr h => ?_)
  · obtain ⟨c, n, fr, rfl, _⟩ := h
    rfl
  · obtain ⟨a, ns, fr, rfl, hS, hz, S, k⟩ := h
    refine ⟨_, (pss_one (ps_ret (pe_lst (pa_cons (pe_callTy (call_gList (K := K) rfl) (by rfl) T.n_list (by decide +kernel) (pa_cons (pe_slice (sl_g (K := K) rfl) (pv 0) po_none (po_some pe_int)) pa_nil)) (pa_cons pe_int (pa_cons pe_int (pa_cons pe_int pa_nil))))))), ?_⟩
    walk_at "v"
    refine s_sq hS S fun d H1 S1 => ?_
    obtain ⟨bs, e, hb⟩ := cut_map V.int ns none (some 63)
    rw [e] at S1
    walk_at "v"
    refine' c_listL (by assumption) ?hi ?_
    (case hi => walk_at "has")
    intro q H2 S2
    walk_at "v"
    refine k _ _ (src_close (L := q) (ns := bs) (a := 0) (b := 0) (c := 0) ?_ (by decide) (by decide) (by decide) ?_)
    · omega
    · rename_i p H3 S3
      exact S3.dr2
/-! law_mixed -/
def sp_law_mixed : Sp := fun vs H Q _ => ∃ c n : Int, vs = [.int c, .int n] ∧ ∀ r : Int, 0 ≤ r → Q (.int r) H
theorem c_mixed {c n : Int} {H : Hp} {Q : VK} {E : XK} (k : ∀ r : Int, 0 ≤ r → Q (.int r) H) : sp_law_mixed [.int c, .int n] H Q E := ⟨c, n, rfl, k⟩
local macro_rules | `(tactic| walk_at "v1") => `(tactic| ((with_reducible refine c_mixed ?_); intro _ _))
theorem ok_law_mixed (T : Txt K mg A) : FnOk P w K mg base CX0 1 A.f_law_mixed A.fd_law_mixed ["cell", "count"] (sp_law_mixed) := by
  refine T.F_law_mixed.ok sc_law_mixed (fun vs H Q E h => ?_) (fun cdv A' outer s0 H vs Q E hr h => ?_)
  · obtain ⟨c, n, rfl, _⟩ := h
    rfl
  · obtain ⟨c, n, rfl, k⟩ := h
    refine ⟨_, (pss_cons (ps_if (pt_cmpR (op_gEq (K := K) rfl hr.units) (pv 0) pe_int (nomark _)) (pss_one (ps_ret pe_int)) pss_nil)
      (pss_cons (ps_set (i := 2) sc_law_mixed.nd rfl (.inl rfl) (pe_op op_gMod (pe_callTy call_gInt (by rfl) T.n_int (by decide +kernel) (pa_cons (pe_op op_gAdd (pe_op op_gMul (pv 0) pe_int) (pe_op op_gMul (pv 1) pe_int)) pa_nil)) pe_int))
      (pss_one (ps_ret (pe_op op_gDiv (pe_op op_gMod (pe_callTy call_gInt (by rfl) T.n_int (by decide +kernel) (pa_cons (pe_op op_gAdd (pe_op op_gAdd (pe_op op_gMul (pv 2) pe_int) (pe_op op_gMul (pe_op op_gDiv (pv 2) pe_int) (pv 1))) pe_int) pa_nil)) pe_int) pe_int))))), ?_⟩
    walk_at "v"
    refine r_ifD (fun e => ?_) (fun e => ?_)
    · walk_at "v"
      exact k 0 (by decide)
    · walk_at "v"
      refine k _ ?_
      omega
/-! law_draw -/
local macro_rules | `(tactic| walk_at "srcE") => `(tactic| (first | omega | exact Int.ediv_nonneg (by omega) (by omega)))
def sp_law_draw : Sp := fun vs H Q _ => ∃ (s : Addr) (n : Int) (fr : List Asn), vs = [.ref s, .int n] ∧ 0 < n ∧ n < 10 ^ 40 ∧ Sep (Src s :: fr) H ∧ ∀ (r : Int) (H' : Hp), 0 ≤ r → r < n → Sep (Src s :: fr) H' → Q (.int r) H'
theorem c_draw {l : List Asn} {H : Hp} {i : Nat} {s : Addr} {n : Int} {Q : VK} {E : XK} (S : Sep l H) (e : l[i]? = some (Src s)) (h0 : 0 < n) (h1 : n < 10 ^ 40) (k : ∀ (r : Int) (H' : Hp), 0 ≤ r → r < n → Sep l H' → Q (.int r) H') : sp_law_draw [.ref s, .int n] H Q E :=
  ⟨s, n, _, rfl, h0, h1, S.pick e, fun r H' a b S' => k r H' a b (Sep.backS e S')⟩
theorem ok_law_draw (T : Txt K mg A) : FnOk P w K mg base CX0 2 A.f_law_draw A.fd_law_draw ["source", "size"] (sp_law_draw) := by
  refine T.F_law_draw.ok sc_law_draw (fun vs H Q E h => ?_) (fun cdv A' outer s0 H vs Q E hr h => ?_)
  · obtain ⟨c, n, fr, rfl, _⟩ := h
    rfl
  · obtain ⟨s, n, fr, rfl, n0, n1, S, k⟩ := h
    obtain ⟨L, ns, a, b, c, hz, a0, b0, c0, S⟩ := src_open S
    refine ⟨_, (pss_cons (ps_asg (pe_op op_gAdd (pe_ix (ix_g (K := K) rfl) (pv 0) pe_int (fun _ _ => rfl)) pe_int) (pg_sub (pv 0) pe_int set_list))
      (pss_cons (ps_if (PW.pt (pw_and (pt_cmpR (op_gEq (K := K) rfl hr.units) (pe_ix (ix_g (K := K) rfl) (pv 0) pe_int (fun _ _ => rfl)) pe_int (nomark _)) (pw_and1 (pt_cmpR op_gGt (pe_callB (call_gLen (K := K) rfl) (by rfl) T.n_len (by decide +kernel) (pa_cons (pe_ix (ix_g (K := K) rfl) (pv 0) pe_int (fun _ _ => rfl)) pa_nil)) pe_int (nomark _))))) (pss_cons (ps_set (i := 2) sc_law_draw.nd rfl (.inl rfl) (pe_ix (ix_g (K := K) rfl) (pv 0) pe_int (fun _ _ => rfl)))
      (pss_cons (ps_set (i := 3) sc_law_draw.nd rfl (.inl rfl) (pe_ix (ix_g (K := K) rfl) (pe_ix (ix_g (K := K) rfl) (pv 0) pe_int (fun _ _ => rfl)) (pe_op op_gMod (pe_callTy call_gInt (by rfl) T.n_int (by decide +kernel) (pa_cons (pv 2) pa_nil)) (pe_callB (call_gLen (K := K) rfl) (by rfl) T.n_len (by decide +kernel) (pa_cons (pe_ix (ix_g (K := K) rfl) (pv 0) pe_int (fun _ _ => rfl)) pa_nil))) (fun _ _ => rfl)))
      (pss_cons (ps_asg (pe_op op_gAdd (pv 2) pe_int) (pg_sub (pv 0) pe_int set_list))
      (pss_one (ps_if (PW.pt (pw_and (pt_cmpR op_gLt (pv 2) (pe_callB (call_gLen (K := K) rfl) (by rfl) T.n_len (by decide +kernel) (pa_cons (pe_ix (ix_g (K := K) rfl) (pv 0) pe_int (fun _ _ => rfl)) pa_nil)) (nomark _)) (pw_and1 (pt_cmpR op_gGe (pe_callB call_gAbs (by rfl) T.n_abs (by decide +kernel) (pa_cons (pv 3) pa_nil)) (pe_op op_gPow pe_int pe_int) (nomark _))))) (pss_one (ps_asg (pe_callB call_gAbs (by rfl) T.n_abs (by decide +kernel) (pa_cons (pv 3) pa_nil)) (pg_sub (pv 0) pe_int set_list))) (pss_one (ps_ret (pe_op op_gMod (pe_callTy call_gInt (by rfl) T.n_int (by decide +kernel) (pa_cons (pe_call (ok_law_mixed T) (hr.mono (by decide)) rfl T.m_law_mixed T.k_law_mixed T.b_law_mixed .nil pass0 (pa_cons (pv 3) (pa_cons (pe_ix (ix_g (K := K) rfl) (pv 0) pe_int (fun _ _ => rfl)) pa_nil))) pa_nil)) (pv 1))))))))) pss_nil)
      (pss_cons (ps_set (i := 4) sc_law_draw.nd rfl (.inl rfl) (pe_op op_gMod (pe_callTy call_gInt (by rfl) T.n_int (by decide +kernel) (pa_cons (pe_ix (ix_g (K := K) rfl) (pv 0) pe_int (fun _ _ => rfl)) pa_nil)) (pv 1)))
      (pss_cons (ps_asg (pe_op op_gDiv (pe_ix (ix_g (K := K) rfl) (pv 0) pe_int (fun _ _ => rfl)) (pv 1)) (pg_sub (pv 0) pe_int set_list))
      (pss_one (ps_ret (pv 4))))))), ?_⟩
    walk_at "v"
    rename_i H1 S1
    refine r_ifD (fun e0 => ?_) (fun e0 => ?_)
    · walk_at "v"
      refine r_ifD (fun e1 => ?_) (fun e1 => ?_)
      · walk_at "v"
        refine r_ifD (fun e2 => ?_) (fun e2 => ?_)
        · walk_at "v"
          refine r_ifD (fun e3 => ?_) (fun e3 => ?_)
          · walk_at "v"
            refine k _ _ (by assumption) (by assumption) (src_close hz ?_ ?_ ?_ (by assumption)) <;> walk_at "srcE"
          · walk_at "v"
            refine k _ _ (by assumption) (by assumption) (src_close hz ?_ ?_ ?_ (by assumption)) <;> walk_at "srcE"
        · walk_at "v"
          refine k _ _ (by assumption) (by assumption) (src_close hz ?_ ?_ ?_ (by assumption)) <;> walk_at "srcE"
      · walk_at "v"
        refine k _ _ (by assumption) (by assumption) (src_close hz ?_ ?_ ?_ (by assumption)) <;> walk_at "srcE"
    · walk_at "v"
      refine k _ _ (by assumption) (by assumption) (src_close hz ?_ ?_ ?_ (by assumption)) <;> walk_at "srcE"
local macro_rules | `(tactic| walk_at "v1") => `(tactic| ((with_reducible refine' c_draw (by assumption) ?hi ?h0 ?h1 ?_); (case hi => walk_at "has"); (case h0 => (first | decide | omega | assumption)); (case h1 => (first | decide | omega | assumption)); intro _ _ _ _ _))
/-! law_number -/
def sp_law_number : Sp := fun vs H Q _ => ∃ (s : Addr) (fr : List Asn), vs = [.ref s] ∧ Sep (Src s :: fr) H ∧ ∀ (n : Int) (H' : Hp), -(10 ^ 30) < n → n < 10 ^ 30 → Sep (Src s :: fr) H' → Q (.int n) H'
theorem c_number {l : List Asn} {H : Hp} {i : Nat} {s : Addr} {Q : VK} {E : XK} (S : Sep l H) (e : l[i]? = some (Src s)) (k : ∀ (n : Int) (H' : Hp), -(10 ^ 30) < n → n < 10 ^ 30 → Sep l H' → Q (.int n) H') : sp_law_number [.ref s] H Q E :=
  ⟨s, _, rfl, S.pick e, fun r H' a b S' => k r H' a b (Sep.backS e S')⟩
theorem ok_law_number (T : Txt K mg A) : FnOk P w K mg base CX0 3 A.f_law_number A.fd_law_number ["source"] (sp_law_number) := by
  refine T.F_law_number.ok sc_law_number (fun vs H Q E h => ?_) (fun cdv A' outer s0 H vs Q E hr h => ?_)
  · obtain ⟨s, fr, rfl, _⟩ := h
    rfl
  · obtain ⟨s, fr, rfl, S, k⟩ := h
    refine ⟨_, (pss_cons (ps_set (i := 1) sc_law_number.nd rfl (.inl rfl) (pe_call (ok_law_draw T) (hr.mono (by decide)) rfl T.m_law_draw T.k_law_draw T.b_law_draw .nil pass0 (pa_cons (pv 0) (pa_cons pe_int pa_nil))))
      (pss_cons (ps_if (pt_cmpR (op_gEq (K := K) rfl hr.units) (pv 1) pe_int (nomark _)) (pss_one (ps_ret (pe_op op_gSub (pe_call (ok_law_draw T) (hr.mono (by decide)) rfl T.m_law_draw T.k_law_draw T.b_law_draw .nil pass0 (pa_cons (pv 0) (pa_cons pe_int pa_nil))) pe_int))) pss_nil)
      (pss_cons (ps_if (pt_cmpR (op_gEq (K := K) rfl hr.units) (pv 1) pe_int (nomark _)) (pss_one (ps_ret (pe_op op_gSub (pe_call (ok_law_draw T) (hr.mono (by decide)) rfl T.m_law_draw T.k_law_draw T.b_law_draw .nil pass0 (pa_cons (pv 0) (pa_cons pe_int pa_nil))) pe_int))) pss_nil)
      (pss_cons (ps_set (i := 2) sc_law_number.nd rfl (.inl rfl) pe_int)
      (pss_cons (ps_for PassesOwn.never rfl (pi_range1 (by rfl) T.n_range (pa_cons pe_int pa_nil)) (pg_name (i := 3) sc_law_number.nd rfl (.inl rfl)) (pss_one (ps_set (i := 2) sc_law_number.nd rfl (.inl rfl) (pe_op op_gAdd (pe_op op_gMul (pv 2) (pe_op op_gPow pe_int pe_int)) (pe_call (ok_law_draw T) (hr.mono (by decide)) rfl T.m_law_draw T.k_law_draw T.b_law_draw .nil pass0 (pa_cons (pv 0) (pa_cons (pe_op op_gPow pe_int pe_int) pa_nil)))))))
      (pss_cons (ps_set (i := 2) sc_law_number.nd rfl (.inl rfl) (pe_op op_gMod (pe_callTy call_gInt (by rfl) T.n_int (by decide +kernel) (pa_cons (pv 2) pa_nil)) (pe_op op_gPow pe_int pe_int)))
      (pss_one (ps_ret (pe_ifExp (pt_cmpR (op_gEq (K := K) rfl hr.units) (pv 1) pe_int (nomark _)) (pv 2) (pe_un un_gNeg (pv 2))))))))))), ?_⟩
    walk_at "v"
    refine r_ifD (fun e0 => ?_) (fun e0 => ?_)
    · walk_at "v"
      exact k _ _ (by omega) (by omega) (by assumption)
    · walk_at "v"
      refine r_ifD (fun e1 => ?_) (fun e1 => ?_)
      · walk_at "v"
        exact k _ _ (by omega) (by omega) (by assumption)
      · walk_at "v"
        try refine r_forR1 ?_
        walk_at "v"
        rename_i r H1 r0 r8 S1
        refine forR (by omega) (by omega) (fun i σ H => ∃ (a : Option V) (n : Int), σ = [some (.ref s), some (.int r), some (.int n), a] ∧ Sep (Src s :: fr) H) ⟨_, _, rfl, S1⟩ ?_ ?_
        · rintro i σ H2 hi ⟨a, n, rfl, S2⟩
          walk_at "v"
          exact ⟨_, _, rfl, by assumption⟩
        · rintro σ H2 ⟨a, n, rfl, S2⟩
          walk_at "v"
          rename_i r2 _ h0 h1
          refine r_ifD (fun e2 => ?_) (fun e2 => ?_)
          · walk_at "v"
            exact k _ _ (by omega) (by omega) S2
          · walk_at "v"
            exact k _ _ (by omega) (by omega) S2
local macro_rules | `(tactic| walk_at "v1") => `(tactic| ((with_reducible refine' c_number (by assumption) ?hi ?_); (case hi => walk_at "has"); intro _ _ _ _ _))
/-! law_word -/
def sp_law_word : Sp := fun vs H Q _ => ∃ (s : Addr) (fr : List Asn), vs = [.ref s] ∧ Sep (Src s :: fr) H ∧ ∀ (w : Str) (H' : Hp), Wd w → Sep (Src s :: fr) H' → Q (.str w) H'
theorem c_word {l : List Asn} {H : Hp} {i : Nat} {s : Addr} {Q : VK} {E : XK} (S : Sep l H) (e : l[i]? = some (Src s)) (k : ∀ (w : Str) (H' : Hp), Wd w → Sep l H' → Q (.str w) H') : sp_law_word [.ref s] H Q E :=
  ⟨s, _, rfl, S.pick e, fun r H' a S' => k r H' a (Sep.backS e S')⟩
theorem ok_law_word (T : Txt K mg A) : FnOk P w K mg base CX0 3 A.f_law_word A.fd_law_word ["source"] (sp_law_word) := by
  refine T.F_law_word.ok sc_law_word (fun vs H Q E h => ?_) (fun cdv A' outer s0 H vs Q E hr h => ?_)
  · obtain ⟨s, fr, rfl, _⟩ := h
    rfl
  · obtain ⟨s, fr, rfl, S, k⟩ := h
    refine ⟨_, (pss_cons (ps_if (pt_cmpR (op_gEq (K := K) rfl hr.units) (pe_call (ok_law_draw T) (hr.mono (by decide)) rfl T.m_law_draw T.k_law_draw T.b_law_draw .nil pass0 (pa_cons (pv 0) (pa_cons pe_int pa_nil))) pe_int (nomark _)) (pss_cons (ps_set (i := 1) sc_law_word.nd rfl (.inl rfl) (pe_lst (pa_cons pe_str (pa_cons pe_str (pa_cons pe_str (pa_cons pe_str (pa_cons pe_str (pa_cons pe_str (pa_cons pe_str (pa_cons pe_str pa_nil))))))))))
      (pss_one (ps_ret (pe_ix (ix_g (K := K) rfl) (pv 1) (pe_call (ok_law_draw T) (hr.mono (by decide)) rfl T.m_law_draw T.k_law_draw T.b_law_draw .nil pass0 (pa_cons (pv 0) (pa_cons pe_int pa_nil))) (fun _ _ => rfl))))) pss_nil)
      (pss_cons (ps_set (i := 2) sc_law_word.nd rfl (.inl rfl) pe_str)
      (pss_cons (ps_for PassesOwn.never rfl (pi_range1 (by rfl) T.n_range (pa_cons (pe_op op_gAdd pe_int (pe_call (ok_law_draw T) (hr.mono (by decide)) rfl T.m_law_draw T.k_law_draw T.b_law_draw .nil pass0 (pa_cons (pv 0) (pa_cons pe_int pa_nil)))) pa_nil)) (pg_name (i := 3) sc_law_word.nd rfl (.inl rfl)) (pss_one (ps_set (i := 2) sc_law_word.nd rfl (.inl rfl) (pe_op op_gAdd (pv 2) (pe_ix (ix_g (K := K) rfl) pe_str (pe_call (ok_law_draw T) (hr.mono (by decide)) rfl T.m_law_draw T.k_law_draw T.b_law_draw .nil pass0 (pa_cons (pv 0) (pa_cons pe_int pa_nil))) (fun _ _ => rfl))))))
      (pss_one (ps_ret (pv 2)))))), ?_⟩
    walk_at "v"
    refine r_ifD (fun e0 => ?_) (fun e0 => ?_)
    · walk_at "v"
      rename_i p _ _ r H1 r0 r8 S1
      refine x_lstA S1 has0 r0 r8 fun v hv => ?_
      obtain ⟨w, rfl, hw⟩ : ∃ w, v = V.str w ∧ Wd w := by
        have hm := List.mem_of_getElem? hv
        simp only [List.mem_cons, List.not_mem_nil, or_false] at hm
        rcases hm with rfl | rfl | rfl | rfl | rfl | rfl | rfl | rfl <;> exact ⟨_, rfl, by decide +kernel⟩
      exact k w _ hw S1.tail
    · walk_at "v"
      try refine r_forR1 ?_
      walk_at "v"
      rename_i r H1 r0 r8 S1
      refine forR (by omega) (by omega) (fun i σ H => ∃ (w : Str) (a b : Option V), σ = [some (.ref s), a, some (.str w), b] ∧ w.length = i ∧ (∀ c ∈ w.cps.toList, c ∈ abc) ∧ Sep (Src s :: fr) H) ⟨_, _, _, rfl, rfl, fun c hc => (nomatch hc), S1⟩ ?_ ?_
      · rintro i σ H2 hi ⟨w, a, b, rfl, hl, hc, S2⟩
        walk_at "v"
        rename_i r' H3 r0' r8' S3
        refine x_strI (by decide +kernel) r0' (by have e := abc_len; unfold abc at e; omega) fun c hc' => ?_
        refine o_addS (Nat.le_trans (show w.length + 1 ≤ 1000 by omega) (by decide)) ?_
        walk_at "v"
        refine ⟨w ++ ⟨#[c]⟩, _, _, rfl, by rw [str_len_app, hl]; rfl, fun c' hm => ?_, S3⟩
        rw [str_app] at hm
        rcases List.mem_append.1 hm with hm | hm
        · exact hc c' hm
        · have e : c' = c := List.mem_singleton.1 hm
          rw [e]; exact hc'
      · rintro σ H2 ⟨w, a, b, rfl, hl, hc, S2⟩
        walk_at "v"
        exact k w _ ⟨by omega, by omega, hc⟩ S2
local macro_rules | `(tactic| walk_at "v1") => `(tactic| ((with_reducible refine' c_word (by assumption) ?hi ?_); (case hi => walk_at "has"); intro _ _ _ _))
/-! law_value -/
/-- a value that can be compared with itself, told by what stands in the frame -/
def VkF (K : PySem.W.Frag) (fr : List Asn) (x : V) : Prop := ∃ (d : PyData) (T : String) (b : Bool), d.canLay0 = true ∧ d.depth ≤ 5 ∧ PyData.eqv d d = true ∧ kitB T "bool" = some b ∧ ∀ H, Sep fr H → Dp K H x d ∧ TyX K H x (.type T)
theorem VkF.up {K : PySem.W.Frag} {fr : List Asn} {x : V} {B : Asn} (h : VkF K fr x) : VkF K (B :: fr) x := by
  obtain ⟨d, T, b, h1, h2, h3, h4, h5⟩ := h
  exact ⟨d, T, b, h1, h2, h3, h4, fun H S => h5 H S.tail⟩
theorem VkF.sub {K : PySem.W.Frag} {fr fr' : List Asn} {x : V} (h : VkF K fr x) (k : ∀ H, Sep fr' H → Sep fr H) : VkF K fr' x := by
  obtain ⟨d, T, b, h1, h2, h3, h4, h5⟩ := h
  exact ⟨d, T, b, h1, h2, h3, h4, fun H S => h5 H (k H S)⟩
theorem vk_int {K : PySem.W.Frag} {fr : List Asn} {n : Int} : VkF K fr (.int n) := ⟨.int n, "int", false, by rw [PyData.canLay0], by rw [PyData.depth]; decide, by simp [PyData.eqv], by decide +kernel, fun H S => ⟨.int n, .base (.int n)⟩⟩
theorem vk_str {K : PySem.W.Frag} {fr : List Asn} {w : Str} (hw : PyData.strOk w = true) : VkF K fr (.str w) := ⟨.str w, "str", false, by rw [PyData.canLay0]; exact hw, by rw [PyData.depth]; decide, by simp [PyData.eqv], by decide +kernel, fun H S => ⟨.str w, .base (.str w)⟩⟩
theorem vk_non {K : PySem.W.Frag} {fr : List Asn} : VkF K fr .non := ⟨.none, "NoneType", false, by rw [PyData.canLay0], by rw [PyData.depth]; decide, by simp [PyData.eqv], by decide +kernel, fun H S => ⟨.non, .base .non⟩⟩
theorem vk_bl {K : PySem.W.Frag} {fr : List Asn} {b : Bool} : VkF K fr (.bl b) := ⟨.bool b, "bool", true, by rw [PyData.canLay0], by rw [PyData.depth]; decide, by simp [PyData.eqv], by decide +kernel, fun H S => ⟨.bl b, .base (.bl b)⟩⟩
theorem vk_tup {K : PySem.W.Frag} {fr : List Asn} {p : Addr} {n : Int} {w : Str} {i : Nat} (hw : PyData.strOk w = true) (hi : fr[i]? = some (Tp p [.int n, .str w])) : VkF K fr (.ref p) :=
  ⟨.tuple [.int n, .str w], "tuple", false, by simp [PyData.canLay0, PyData.canLayAll0, hw], by simp [PyData.depth, PyData.depthAll], by simp [PyData.eqv, PyData.eqvAll], by decide +kernel,
    fun H S => ⟨.tup (SqT.of (S.tp hi)) (.cons (.int n) (.cons (.str w) .nil)), .base (.tup (S.tp hi))⟩⟩
theorem vk_lst {K : PySem.W.Frag} {fr : List Asn} {p q : Addr} {n : Int} {i j : Nat} (hi : fr[i]? = some (At p (.lst [.int n, .ref q]))) (hj : fr[j]? = some (At q (.lst [.non]))) : VkF K fr (.ref p) :=
  ⟨.list [.int n, .list [.none]], "list", false, by simp [PyData.canLay0, PyData.canLayAll0], by simp [PyData.depth, PyData.depthAll], by simp [PyData.eqv, PyData.eqvAll], by decide +kernel,
    fun H S => ⟨.lst (SqL.of (S.at hi)) (.cons (.int n) (.cons (.lst (SqL.of (S.at hj)) (.cons .non .nil)) .nil)), .base (.lst (S.at hi))⟩⟩
def sp_law_value (K : PySem.W.Frag) : Sp := fun vs H Q _ => ∃ (s : Addr) (fr : List Asn), vs = [.ref s] ∧ Sep (Src s :: fr) H ∧ ∀ (x : V) (fr' : List Asn) H', VkF K fr' x → (∀ H, Sep fr' H → Sep (Src s :: fr) H) → (∃ j : Nat, fr'[j]? = some (Src s)) → Sep fr' H' → Q x H'
theorem ok_law_value (T : Txt K mg A) : FnOk P w K mg base CX0 4 A.f_law_value A.fd_law_value ["source"] (sp_law_value K) := by
  refine T.F_law_value.ok sc_law_value (fun vs H Q E h => ?_) (fun cdv A' outer s0 H vs Q E hr h => ?_)
  · obtain ⟨s, fr, rfl, _⟩ := h
    rfl
  · obtain ⟨s, fr, rfl, S, k⟩ := h
    refine ⟨_, (pss_cons (ps_set (i := 1) sc_law_value.nd rfl (.inl rfl) (pe_call (ok_law_draw T) (hr.mono (by decide)) rfl T.m_law_draw T.k_law_draw T.b_law_draw .nil pass0 (pa_cons (pv 0) (pa_cons pe_int pa_nil))))
      (pss_cons (ps_if (pt_cmpR op_gLt (pv 1) pe_int (nomark _)) (pss_one (ps_ret (pe_call (ok_law_number T) (hr.mono (by decide)) rfl T.m_law_number T.k_law_number T.b_law_number .nil pass0 (pa_cons (pv 0) pa_nil)))) pss_nil)
      (pss_cons (ps_if (pt_cmpR (op_gEq (K := K) rfl hr.units) (pv 1) pe_int (nomark _)) (pss_one (ps_ret (pe_call (ok_law_word T) (hr.mono (by decide)) rfl T.m_law_word T.k_law_word T.b_law_word .nil pass0 (pa_cons (pv 0) pa_nil)))) pss_nil)
      (pss_cons (ps_set (i := 2) sc_law_value.nd rfl (.inl rfl) (pe_call (ok_law_number T) (hr.mono (by decide)) rfl T.m_law_number T.k_law_number T.b_law_number .nil pass0 (pa_cons (pv 0) pa_nil)))
      (pss_one (ps_ret (pe_ix (ix_g (K := K) rfl) (pe_lst (pa_cons pe_non (pa_cons pe_bl (pa_cons (pe_tup (pa_cons (pv 2) (pa_cons pe_str pa_nil))) (pa_cons (pe_lst (pa_cons (pv 2) (pa_cons (pe_lst (pa_cons pe_non pa_nil)) pa_nil))) pa_nil))))) (pe_op op_gSub (pv 1) pe_int) (fun _ _ => rfl)))))))), ?_⟩
    walk_at "v"
    rename_i m H1 m0 m7 S1
    refine r_ifD (fun e0 => ?_) (fun e0 => ?_)
    · walk_at "v"
      rename_i n H2 n0 n1 S2
      exact k _ _ _ vk_int (fun _ S => S) ⟨0, rfl⟩ S2
    · walk_at "v"
      refine r_ifD (fun e1 => ?_) (fun e1 => ?_)
      · walk_at "v"
        rename_i w H2 hw S2
        exact k _ _ _ (vk_str (strOk_word hw)) (fun _ S => S) ⟨0, rfl⟩ S2
      · walk_at "v"
        rename_i n H2 n0 n1 S2 p1 H3 S3 p2 H4 S4 p3 H5 S5 p4 H6 S6
        have h4 : m = 3 ∨ m = 4 ∨ m = 5 ∨ m = 6 := by omega
        have back : ∀ H, Sep (At p4 (.lst [.non, .bl true, .ref p1, .ref p3]) :: At p3 (.lst [.int n, .ref p2]) :: At p2 (.lst [.non]) :: Tp p1 [.int n, .str "a"] :: Src s :: fr) H → Sep (Src s :: fr) H := fun H S => S.tail.tail.tail.tail
        rcases h4 with rfl | rfl | rfl | rfl
        · exact x_lst S6 has0 (v := .non) rfl (k _ _ _ vk_non back ⟨4, rfl⟩ S6)
        · exact x_lst S6 has0 (v := .bl true) rfl (k _ _ _ vk_bl back ⟨4, rfl⟩ S6)
        · exact x_lst S6 has0 (v := .ref p1) rfl (k _ _ _ (vk_tup (i := 3) (by decide +kernel) rfl) back ⟨4, rfl⟩ S6)
        · exact x_lst S6 has0 (v := .ref p3) rfl (k _ _ _ (vk_lst (i := 1) (j := 2) rfl rfl) back ⟨4, rfl⟩ S6)
theorem c_value {K : PySem.W.Frag} {l : List Asn} {H : Hp} {i : Nat} {s : Addr} {Q : VK} {E : XK} (S : Sep l H) (e : l[i]? = some (Src s)) (k : ∀ (x : V) (fr' : List Asn) H', VkF K fr' x → (∀ H, Sep fr' H → Sep l H) → (∃ j : Nat, fr'[j]? = some (Src s)) → Sep fr' H' → Q x H') : sp_law_value K [.ref s] H Q E :=
  ⟨s, _, rfl, S.pick e, fun x fr' H' hv hb hj S' => k x fr' H' hv (fun H S => Sep.backS e (hb H S)) hj S'⟩
/-! Unfit___init__ -/
abbrev sp_Unfit___init__ (K : PySem.W.Frag) : Sp := sp_exi2 K "door" "line"
theorem ok_Unfit___init__ (T : Txt K mg A) : FnOk P w K mg base CX0 1 A.f_Unfit___init__ A.fd_Unfit___init__ ["self", "door", "line"] (sp_Unfit___init__ K) := by
  refine T.F_Unfit___init__.ok sc_Unfit___init__ (fun vs H Q E h => ?_) (fun cdv A' outer s0 H vs Q E hr h => ?_)
  · obtain ⟨a, C, x, y, rfl, _⟩ := h
    rfl
  · obtain ⟨a, C, x, y, rfl, hT, hf, hg, ha, k⟩ := h
    refine ⟨_, (pss_cons (ps_gOst (K := K) rfl (pv 0) (pv 1))
      (pss_one (ps_gOst (K := K) rfl (pv 0) (pv 2)))), ?_⟩
    walk_at "v"
    refine ⟨a, C, rfl, hT, hf, .inl ⟨ha, fun dx h1 h2 => ?_⟩⟩
    walk_at "v"
    exact ⟨a, C, rfl, hT, hg, .inr ⟨dx, _, upd_same, by rw [upd_ne h2]; exact upd_same, by show 1 ≤ 900; decide, k dx h1 h2⟩⟩
/-! Refused___init__ -/
abbrev sp_Refused___init__ (K : PySem.W.Frag) : Sp := sp_exb3 K "door" "line" "why"
theorem ok_Refused___init__ (T : Txt K mg A) : FnOk P w K mg base CX0 1 A.f_Refused___init__ A.fd_Refused___init__ ["self", "door", "line", "why"] (sp_Refused___init__ K) := by
  refine T.F_Refused___init__.ok sc_Refused___init__ (fun vs H Q E h => ?_) (fun cdv A' outer s0 H vs Q E hr h => ?_)
  · obtain ⟨a, C, x, y, z, rfl, _⟩ := h
    rfl
  · obtain ⟨a, C, x, y, z, rfl, hT, hf, hg, hh, ha, k⟩ := h
    refine ⟨_, (pss_cons (ps_gOstC (K := K) rfl (pv 0) (pv 1))
      (pss_cons (ps_gOstC (K := K) rfl (pv 0) (pv 2))
      (pss_one (ps_gOstC (K := K) rfl (pv 0) (pv 3))))), ?_⟩
    walk_at "v"
    refine ⟨a, C, rfl, hT, hf, .inl ⟨ha, fun dx h1 h2 => ?_⟩⟩
    walk_at "v"
    refine ⟨a, C, rfl, hT, hg, .inr ⟨dx, _, upd_same, by rw [upd_ne h2]; exact upd_same, by show 1 ≤ 900; decide, ?_⟩⟩
    walk_at "v"
    exact ⟨a, C, rfl, hT, hh, .inr ⟨dx, _, by rw [upd_ne (Ne.symm h2)]; exact upd_same, upd_same, by show 2 ≤ 900; decide, k dx h1 h2⟩⟩
/-! BadWord___init__ -/
abbrev sp_BadWord___init__ (K : PySem.W.Frag) : Sp := sp_exi K "word"
theorem ok_BadWord___init__ (T : Txt K mg A) : FnOk P w K mg base CX0 1 A.f_BadWord___init__ A.fd_BadWord___init__ ["self", "word"] (sp_BadWord___init__ K) := by
  refine T.F_BadWord___init__.ok sc_BadWord___init__ (fun vs H Q E h => ?_) (fun cdv A' outer s0 H vs Q E hr h => ?_)
  · obtain ⟨a, C, x, rfl, _⟩ := h
    rfl
  · obtain ⟨a, C, x, rfl, hT, hn, ha, k⟩ := h
    refine ⟨_, (pss_one (ps_gOst (K := K) rfl (pv 0) (pv 1))), ?_⟩
    walk_at "v"
    exact ⟨a, C, rfl, hT, hn, .inl ⟨ha, fun dx h1 h2 => k dx h1 h2⟩⟩
/-! BadNumber___init__ -/
abbrev sp_BadNumber___init__ (K : PySem.W.Frag) : Sp := sp_exi K "number"
theorem ok_BadNumber___init__ (T : Txt K mg A) : FnOk P w K mg base CX0 1 A.f_BadNumber___init__ A.fd_BadNumber___init__ ["self", "number"] (sp_BadNumber___init__ K) := by
  refine T.F_BadNumber___init__.ok sc_BadNumber___init__ (fun vs H Q E h => ?_) (fun cdv A' outer s0 H vs Q E hr h => ?_)
  · obtain ⟨a, C, x, rfl, _⟩ := h
    rfl
  · obtain ⟨a, C, x, rfl, hT, hn, ha, k⟩ := h
    refine ⟨_, (pss_one (ps_gOst (K := K) rfl (pv 0) (pv 1))), ?_⟩
    walk_at "v"
    exact ⟨a, C, rfl, hT, hn, .inl ⟨ha, fun dx h1 h2 => k dx h1 h2⟩⟩
/-! BadCounts___init__ -/
abbrev sp_BadCounts___init__ (K : PySem.W.Frag) : Sp := sp_exi K "at"
theorem ok_BadCounts___init__ (T : Txt K mg A) : FnOk P w K mg base CX0 1 A.f_BadCounts___init__ A.fd_BadCounts___init__ ["self", "at"] (sp_BadCounts___init__ K) := by
  refine T.F_BadCounts___init__.ok sc_BadCounts___init__ (fun vs H Q E h => ?_) (fun cdv A' outer s0 H vs Q E hr h => ?_)
  · obtain ⟨a, C, x, rfl, _⟩ := h
    rfl
  · obtain ⟨a, C, x, rfl, hT, hn, ha, k⟩ := h
    refine ⟨_, (pss_one (ps_gOst (K := K) rfl (pv 0) (pv 1))), ?_⟩
    walk_at "v"
    exact ⟨a, C, rfl, hT, hn, .inl ⟨ha, fun dx h1 h2 => k dx h1 h2⟩⟩
/-! BadRule___init__ -/
abbrev sp_BadRule___init__ (K : PySem.W.Frag) : Sp := sp_exi K "what"
theorem ok_BadRule___init__ (T : Txt K mg A) : FnOk P w K mg base CX0 1 A.f_BadRule___init__ A.fd_BadRule___init__ ["self", "what"] (sp_BadRule___init__ K) := by
  refine T.F_BadRule___init__.ok sc_BadRule___init__ (fun vs H Q E h => ?_) (fun cdv A' outer s0 H vs Q E hr h => ?_)
  · obtain ⟨a, C, x, rfl, _⟩ := h
    rfl
  · obtain ⟨a, C, x, rfl, hT, hn, ha, k⟩ := h
    refine ⟨_, (pss_one (ps_gOst (K := K) rfl (pv 0) (pv 1))), ?_⟩
    walk_at "v"
    exact ⟨a, C, rfl, hT, hn, .inl ⟨ha, fun dx h1 h2 => k dx h1 h2⟩⟩
/-! BadRules___init__ -/
abbrev sp_BadRules___init__ (K : PySem.W.Frag) : Sp := sp_exi K "what"
theorem ok_BadRules___init__ (T : Txt K mg A) : FnOk P w K mg base CX0 1 A.f_BadRules___init__ A.fd_BadRules___init__ ["self", "what"] (sp_BadRules___init__ K) := by
  refine T.F_BadRules___init__.ok sc_BadRules___init__ (fun vs H Q E h => ?_) (fun cdv A' outer s0 H vs Q E hr h => ?_)
  · obtain ⟨a, C, x, rfl, _⟩ := h
    rfl
  · obtain ⟨a, C, x, rfl, hT, hn, ha, k⟩ := h
    refine ⟨_, (pss_one (ps_gOst (K := K) rfl (pv 0) (pv 1))), ?_⟩
    walk_at "v"
    exact ⟨a, C, rfl, hT, hn, .inl ⟨ha, fun dx h1 h2 => k dx h1 h2⟩⟩
/-! BadDoor___init__ -/
abbrev sp_BadDoor___init__ (K : PySem.W.Frag) : Sp := sp_exi K "at"
theorem ok_BadDoor___init__ (T : Txt K mg A) : FnOk P w K mg base CX0 1 A.f_BadDoor___init__ A.fd_BadDoor___init__ ["self", "at"] (sp_BadDoor___init__ K) := by
  refine T.F_BadDoor___init__.ok sc_BadDoor___init__ (fun vs H Q E h => ?_) (fun cdv A' outer s0 H vs Q E hr h => ?_)
  · obtain ⟨a, C, x, rfl, _⟩ := h
    rfl
  · obtain ⟨a, C, x, rfl, hT, hn, ha, k⟩ := h
    refine ⟨_, (pss_one (ps_gOst (K := K) rfl (pv 0) (pv 1))), ?_⟩
    walk_at "v"
    exact ⟨a, C, rfl, hT, hn, .inl ⟨ha, fun dx h1 h2 => k dx h1 h2⟩⟩
/-! BadDesk___init__ -/
abbrev sp_BadDesk___init__ (K : PySem.W.Frag) : Sp := sp_exi K "what"
theorem ok_BadDesk___init__ (T : Txt K mg A) : FnOk P w K mg base CX0 1 A.f_BadDesk___init__ A.fd_BadDesk___init__ ["self", "what"] (sp_BadDesk___init__ K) := by
  refine T.F_BadDesk___init__.ok sc_BadDesk___init__ (fun vs H Q E h => ?_) (fun cdv A' outer s0 H vs Q E hr h => ?_)
  · obtain ⟨a, C, x, rfl, _⟩ := h
    rfl
  · obtain ⟨a, C, x, rfl, hT, hn, ha, k⟩ := h
    refine ⟨_, (pss_one (ps_gOst (K := K) rfl (pv 0) (pv 1))), ?_⟩
    walk_at "v"
    exact ⟨a, C, rfl, hT, hn, .inl ⟨ha, fun dx h1 h2 => k dx h1 h2⟩⟩
/-! BadText___init__ -/
abbrev sp_BadText___init__ (K : PySem.W.Frag) : Sp := sp_exi K "at"
theorem ok_BadText___init__ (T : Txt K mg A) : FnOk P w K mg base CX0 1 A.f_BadText___init__ A.fd_BadText___init__ ["self", "at"] (sp_BadText___init__ K) := by
  refine T.F_BadText___init__.ok sc_BadText___init__ (fun vs H Q E h => ?_) (fun cdv A' outer s0 H vs Q E hr h => ?_)
  · obtain ⟨a, C, x, rfl, _⟩ := h
    rfl
  · obtain ⟨a, C, x, rfl, hT, hn, ha, k⟩ := h
    refine ⟨_, (pss_one (ps_gOst (K := K) rfl (pv 0) (pv 1))), ?_⟩
    walk_at "v"
    exact ⟨a, C, rfl, hT, hn, .inl ⟨ha, fun dx h1 h2 => k dx h1 h2⟩⟩
/-! NotLoose___init__ -/
abbrev sp_NotLoose___init__ (K : PySem.W.Frag) : Sp := sp_exi K "kind"
theorem ok_NotLoose___init__ (T : Txt K mg A) : FnOk P w K mg base CX0 1 A.f_NotLoose___init__ A.fd_NotLoose___init__ ["self", "kind"] (sp_NotLoose___init__ K) := by
  refine T.F_NotLoose___init__.ok sc_NotLoose___init__ (fun vs H Q E h => ?_) (fun cdv A' outer s0 H vs Q E hr h => ?_)
  · obtain ⟨a, C, x, rfl, _⟩ := h
    rfl
  · obtain ⟨a, C, x, rfl, hT, hn, ha, k⟩ := h
    refine ⟨_, (pss_one (ps_gOst (K := K) rfl (pv 0) (pv 1))), ?_⟩
    walk_at "v"
    exact ⟨a, C, rfl, hT, hn, .inl ⟨ha, fun dx h1 h2 => k dx h1 h2⟩⟩
/-! Named___init__ -/
abbrev sp_Named___init__ (K : PySem.W.Frag) : Sp := sp_exi K "row"
theorem ok_Named___init__ (T : Txt K mg A) : FnOk P w K mg base CX0 1 A.f_Named___init__ A.fd_Named___init__ ["self", "row"] (sp_Named___init__ K) := by
  refine T.F_Named___init__.ok sc_Named___init__ (fun vs H Q E h => ?_) (fun cdv A' outer s0 H vs Q E hr h => ?_)
  · obtain ⟨a, C, x, rfl, _⟩ := h
    rfl
  · obtain ⟨a, C, x, rfl, hT, hn, ha, k⟩ := h
    refine ⟨_, (pss_one (ps_gOst (K := K) rfl (pv 0) (pv 1))), ?_⟩
    walk_at "v"
    exact ⟨a, C, rfl, hT, hn, .inl ⟨ha, fun dx h1 h2 => k dx h1 h2⟩⟩
/-! Full___init__ -/
abbrev sp_Full___init__ (K : PySem.W.Frag) : Sp := sp_exi K "owner"
theorem ok_Full___init__ (T : Txt K mg A) : FnOk P w K mg base CX0 1 A.f_Full___init__ A.fd_Full___init__ ["self", "owner"] (sp_Full___init__ K) := by
  refine T.F_Full___init__.ok sc_Full___init__ (fun vs H Q E h => ?_) (fun cdv A' outer s0 H vs Q E hr h => ?_)
  · obtain ⟨a, C, x, rfl, _⟩ := h
    rfl
  · obtain ⟨a, C, x, rfl, hT, hn, ha, k⟩ := h
    refine ⟨_, (pss_one (ps_gOst (K := K) rfl (pv 0) (pv 1))), ?_⟩
    walk_at "v"
    exact ⟨a, C, rfl, hT, hn, .inl ⟨ha, fun dx h1 h2 => k dx h1 h2⟩⟩
/-! NoPick___init__ -/
abbrev sp_NoPick___init__ (K : PySem.W.Frag) : Sp := sp_exi K "pick"
theorem ok_NoPick___init__ (T : Txt K mg A) : FnOk P w K mg base CX0 1 A.f_NoPick___init__ A.fd_NoPick___init__ ["self", "pick"] (sp_NoPick___init__ K) := by
  refine T.F_NoPick___init__.ok sc_NoPick___init__ (fun vs H Q E h => ?_) (fun cdv A' outer s0 H vs Q E hr h => ?_)
  · obtain ⟨a, C, x, rfl, _⟩ := h
    rfl
  · obtain ⟨a, C, x, rfl, hT, hn, ha, k⟩ := h
    refine ⟨_, (pss_one (ps_gOst (K := K) rfl (pv 0) (pv 1))), ?_⟩
    walk_at "v"
    exact ⟨a, C, rfl, hT, hn, .inl ⟨ha, fun dx h1 h2 => k dx h1 h2⟩⟩
/-! Broken___init__ -/
abbrev sp_Broken___init__ (K : PySem.W.Frag) : Sp := sp_exi K "rules"
theorem ok_Broken___init__ (T : Txt K mg A) : FnOk P w K mg base CX0 1 A.f_Broken___init__ A.fd_Broken___init__ ["self", "rules"] (sp_Broken___init__ K) := by
  refine T.F_Broken___init__.ok sc_Broken___init__ (fun vs H Q E h => ?_) (fun cdv A' outer s0 H vs Q E hr h => ?_)
  · obtain ⟨a, C, x, rfl, _⟩ := h
    rfl
  · obtain ⟨a, C, x, rfl, hT, hn, ha, k⟩ := h
    refine ⟨_, (pss_one (ps_gOst (K := K) rfl (pv 0) (pv 1))), ?_⟩
    walk_at "v"
    exact ⟨a, C, rfl, hT, hn, .inl ⟨ha, fun dx h1 h2 => k dx h1 h2⟩⟩
/-! BadHistory___init__ -/
abbrev sp_BadHistory___init__ (K : PySem.W.Frag) : Sp := sp_exi K "at"
theorem ok_BadHistory___init__ (T : Txt K mg A) : FnOk P w K mg base CX0 1 A.f_BadHistory___init__ A.fd_BadHistory___init__ ["self", "at"] (sp_BadHistory___init__ K) := by
  refine T.F_BadHistory___init__.ok sc_BadHistory___init__ (fun vs H Q E h => ?_) (fun cdv A' outer s0 H vs Q E hr h => ?_)
  · obtain ⟨a, C, x, rfl, _⟩ := h
    rfl
  · obtain ⟨a, C, x, rfl, hT, hn, ha, k⟩ := h
    refine ⟨_, (pss_one (ps_gOst (K := K) rfl (pv 0) (pv 1))), ?_⟩
    walk_at "v"
    exact ⟨a, C, rfl, hT, hn, .inl ⟨ha, fun dx h1 h2 => k dx h1 h2⟩⟩
/-! BadStanding___init__ -/
abbrev sp_BadStanding___init__ (K : PySem.W.Frag) : Sp := sp_exi K "standing"
theorem ok_BadStanding___init__ (T : Txt K mg A) : FnOk P w K mg base CX0 1 A.f_BadStanding___init__ A.fd_BadStanding___init__ ["self", "standing"] (sp_BadStanding___init__ K) := by
  refine T.F_BadStanding___init__.ok sc_BadStanding___init__ (fun vs H Q E h => ?_) (fun cdv A' outer s0 H vs Q E hr h => ?_)
  · obtain ⟨a, C, x, rfl, _⟩ := h
    rfl
  · obtain ⟨a, C, x, rfl, hT, hn, ha, k⟩ := h
    refine ⟨_, (pss_one (ps_gOst (K := K) rfl (pv 0) (pv 1))), ?_⟩
    walk_at "v"
    exact ⟨a, C, rfl, hT, hn, .inl ⟨ha, fun dx h1 h2 => k dx h1 h2⟩⟩
/-! BadWay___init__ -/
abbrev sp_BadWay___init__ (K : PySem.W.Frag) : Sp := sp_exi K "at"
theorem ok_BadWay___init__ (T : Txt K mg A) : FnOk P w K mg base CX0 1 A.f_BadWay___init__ A.fd_BadWay___init__ ["self", "at"] (sp_BadWay___init__ K) := by
  refine T.F_BadWay___init__.ok sc_BadWay___init__ (fun vs H Q E h => ?_) (fun cdv A' outer s0 H vs Q E hr h => ?_)
  · obtain ⟨a, C, x, rfl, _⟩ := h
    rfl
  · obtain ⟨a, C, x, rfl, hT, hn, ha, k⟩ := h
    refine ⟨_, (pss_one (ps_gOst (K := K) rfl (pv 0) (pv 1))), ?_⟩
    walk_at "v"
    exact ⟨a, C, rfl, hT, hn, .inl ⟨ha, fun dx h1 h2 => k dx h1 h2⟩⟩
/-! NoWay___init__ -/
abbrev sp_NoWay___init__ (K : PySem.W.Frag) : Sp := sp_exi K "standing"
theorem ok_NoWay___init__ (T : Txt K mg A) : FnOk P w K mg base CX0 1 A.f_NoWay___init__ A.fd_NoWay___init__ ["self", "standing"] (sp_NoWay___init__ K) := by
  refine T.F_NoWay___init__.ok sc_NoWay___init__ (fun vs H Q E h => ?_) (fun cdv A' outer s0 H vs Q E hr h => ?_)
  · obtain ⟨a, C, x, rfl, _⟩ := h
    rfl
  · obtain ⟨a, C, x, rfl, hT, hn, ha, k⟩ := h
    refine ⟨_, (pss_one (ps_gOst (K := K) rfl (pv 0) (pv 1))), ?_⟩
    walk_at "v"
    exact ⟨a, C, rfl, hT, hn, .inl ⟨ha, fun dx h1 h2 => k dx h1 h2⟩⟩
/-! TooMany___init__ -/
abbrev sp_TooMany___init__ (K : PySem.W.Frag) : Sp := sp_exi K "what"
theorem ok_TooMany___init__ (T : Txt K mg A) : FnOk P w K mg base CX0 1 A.f_TooMany___init__ A.fd_TooMany___init__ ["self", "what"] (sp_TooMany___init__ K) := by
  refine T.F_TooMany___init__.ok sc_TooMany___init__ (fun vs H Q E h => ?_) (fun cdv A' outer s0 H vs Q E hr h => ?_)
  · obtain ⟨a, C, x, rfl, _⟩ := h
    rfl
  · obtain ⟨a, C, x, rfl, hT, hn, ha, k⟩ := h
    refine ⟨_, (pss_one (ps_gOst (K := K) rfl (pv 0) (pv 1))), ?_⟩
    walk_at "v"
    exact ⟨a, C, rfl, hT, hn, .inl ⟨ha, fun dx h1 h2 => k dx h1 h2⟩⟩
/-! NoDoor___init__ -/
abbrev sp_NoDoor___init__ (K : PySem.W.Frag) : Sp := sp_exb K "name"
theorem ok_NoDoor___init__ (T : Txt K mg A) : FnOk P w K mg base CX0 1 A.f_NoDoor___init__ A.fd_NoDoor___init__ ["self", "name"] (sp_NoDoor___init__ K) := by
  refine T.F_NoDoor___init__.ok sc_NoDoor___init__ (fun vs H Q E h => ?_) (fun cdv A' outer s0 H vs Q E hr h => ?_)
  · obtain ⟨a, C, x, rfl, _⟩ := h
    rfl
  · obtain ⟨a, C, x, rfl, hT, hn, ha, k⟩ := h
    refine ⟨_, (pss_one (ps_gOstB (K := K) rfl (pv 0) (pv 1))), ?_⟩
    walk_at "v"
    exact ⟨a, C, rfl, hT, hn, ha, fun dx h1 h2 => k dx h1 h2⟩
/-! NoBegin___init__ -/
abbrev sp_NoBegin___init__ (K : PySem.W.Frag) : Sp := sp_exb K "index"
theorem ok_NoBegin___init__ (T : Txt K mg A) : FnOk P w K mg base CX0 1 A.f_NoBegin___init__ A.fd_NoBegin___init__ ["self", "index"] (sp_NoBegin___init__ K) := by
  refine T.F_NoBegin___init__.ok sc_NoBegin___init__ (fun vs H Q E h => ?_) (fun cdv A' outer s0 H vs Q E hr h => ?_)
  · obtain ⟨a, C, x, rfl, _⟩ := h
    rfl
  · obtain ⟨a, C, x, rfl, hT, hn, ha, k⟩ := h
    refine ⟨_, (pss_one (ps_gOstB (K := K) rfl (pv 0) (pv 1))), ?_⟩
    walk_at "v"
    exact ⟨a, C, rfl, hT, hn, ha, fun dx h1 h2 => k dx h1 h2⟩
/-! NoOwner___init__ -/
abbrev sp_NoOwner___init__ (K : PySem.W.Frag) : Sp := sp_exb K "owner"
theorem ok_NoOwner___init__ (T : Txt K mg A) : FnOk P w K mg base CX0 1 A.f_NoOwner___init__ A.fd_NoOwner___init__ ["self", "owner"] (sp_NoOwner___init__ K) := by
  refine T.F_NoOwner___init__.ok sc_NoOwner___init__ (fun vs H Q E h => ?_) (fun cdv A' outer s0 H vs Q E hr h => ?_)
  · obtain ⟨a, C, x, rfl, _⟩ := h
    rfl
  · obtain ⟨a, C, x, rfl, hT, hn, ha, k⟩ := h
    refine ⟨_, (pss_one (ps_gOstB (K := K) rfl (pv 0) (pv 1))), ?_⟩
    walk_at "v"
    exact ⟨a, C, rfl, hT, hn, ha, fun dx h1 h2 => k dx h1 h2⟩
/-! NoRow___init__ -/
abbrev sp_NoRow___init__ (K : PySem.W.Frag) : Sp := sp_exb K "row"
theorem ok_NoRow___init__ (T : Txt K mg A) : FnOk P w K mg base CX0 1 A.f_NoRow___init__ A.fd_NoRow___init__ ["self", "row"] (sp_NoRow___init__ K) := by
  refine T.F_NoRow___init__.ok sc_NoRow___init__ (fun vs H Q E h => ?_) (fun cdv A' outer s0 H vs Q E hr h => ?_)
  · obtain ⟨a, C, x, rfl, _⟩ := h
    rfl
  · obtain ⟨a, C, x, rfl, hT, hn, ha, k⟩ := h
    refine ⟨_, (pss_one (ps_gOstB (K := K) rfl (pv 0) (pv 1))), ?_⟩
    walk_at "v"
    exact ⟨a, C, rfl, hT, hn, ha, fun dx h1 h2 => k dx h1 h2⟩
/-! NoRule___init__ -/
abbrev sp_NoRule___init__ (K : PySem.W.Frag) : Sp := sp_exb K "rule"
theorem ok_NoRule___init__ (T : Txt K mg A) : FnOk P w K mg base CX0 1 A.f_NoRule___init__ A.fd_NoRule___init__ ["self", "rule"] (sp_NoRule___init__ K) := by
  refine T.F_NoRule___init__.ok sc_NoRule___init__ (fun vs H Q E h => ?_) (fun cdv A' outer s0 H vs Q E hr h => ?_)
  · obtain ⟨a, C, x, rfl, _⟩ := h
    rfl
  · obtain ⟨a, C, x, rfl, hT, hn, ha, k⟩ := h
    refine ⟨_, (pss_one (ps_gOstB (K := K) rfl (pv 0) (pv 1))), ?_⟩
    walk_at "v"
    exact ⟨a, C, rfl, hT, hn, ha, fun dx h1 h2 => k dx h1 h2⟩
/-! NoDivisor___init__ -/
abbrev sp_NoDivisor___init__ (K : PySem.W.Frag) : Sp := sp_exb K "word"
theorem ok_NoDivisor___init__ (T : Txt K mg A) : FnOk P w K mg base CX0 1 A.f_NoDivisor___init__ A.fd_NoDivisor___init__ ["self", "word"] (sp_NoDivisor___init__ K) := by
  refine T.F_NoDivisor___init__.ok sc_NoDivisor___init__ (fun vs H Q E h => ?_) (fun cdv A' outer s0 H vs Q E hr h => ?_)
  · obtain ⟨a, C, x, rfl, _⟩ := h
    rfl
  · obtain ⟨a, C, x, rfl, hT, hn, ha, k⟩ := h
    refine ⟨_, (pss_one (ps_gOstB (K := K) rfl (pv 0) (pv 1))), ?_⟩
    walk_at "v"
    exact ⟨a, C, rfl, hT, hn, ha, fun dx h1 h2 => k dx h1 h2⟩
/-! Waits___init__ -/
abbrev sp_Waits___init__ (K : PySem.W.Frag) : Sp := sp_exb K "owner"
theorem ok_Waits___init__ (T : Txt K mg A) : FnOk P w K mg base CX0 1 A.f_Waits___init__ A.fd_Waits___init__ ["self", "owner"] (sp_Waits___init__ K) := by
  refine T.F_Waits___init__.ok sc_Waits___init__ (fun vs H Q E h => ?_) (fun cdv A' outer s0 H vs Q E hr h => ?_)
  · obtain ⟨a, C, x, rfl, _⟩ := h
    rfl
  · obtain ⟨a, C, x, rfl, hT, hn, ha, k⟩ := h
    refine ⟨_, (pss_one (ps_gOstB (K := K) rfl (pv 0) (pv 1))), ?_⟩
    walk_at "v"
    exact ⟨a, C, rfl, hT, hn, ha, fun dx h1 h2 => k dx h1 h2⟩
/-! Over___init__ -/
abbrev sp_Over___init__ (K : PySem.W.Frag) : Sp := sp_exb K "number"
theorem ok_Over___init__ (T : Txt K mg A) : FnOk P w K mg base CX0 1 A.f_Over___init__ A.fd_Over___init__ ["self", "number"] (sp_Over___init__ K) := by
  refine T.F_Over___init__.ok sc_Over___init__ (fun vs H Q E h => ?_) (fun cdv A' outer s0 H vs Q E hr h => ?_)
  · obtain ⟨a, C, x, rfl, _⟩ := h
    rfl
  · obtain ⟨a, C, x, rfl, hT, hn, ha, k⟩ := h
    refine ⟨_, (pss_one (ps_gOstB (K := K) rfl (pv 0) (pv 1))), ?_⟩
    walk_at "v"
    exact ⟨a, C, rfl, hT, hn, ha, fun dx h1 h2 => k dx h1 h2⟩
/-! Busy___init__ -/
abbrev sp_Busy___init__ (K : PySem.W.Frag) : Sp := sp_exb K "owner"
theorem ok_Busy___init__ (T : Txt K mg A) : FnOk P w K mg base CX0 1 A.f_Busy___init__ A.fd_Busy___init__ ["self", "owner"] (sp_Busy___init__ K) := by
  refine T.F_Busy___init__.ok sc_Busy___init__ (fun vs H Q E h => ?_) (fun cdv A' outer s0 H vs Q E hr h => ?_)
  · obtain ⟨a, C, x, rfl, _⟩ := h
    rfl
  · obtain ⟨a, C, x, rfl, hT, hn, ha, k⟩ := h
    refine ⟨_, (pss_one (ps_gOstB (K := K) rfl (pv 0) (pv 1))), ?_⟩
    walk_at "v"
    exact ⟨a, C, rfl, hT, hn, ha, fun dx h1 h2 => k dx h1 h2⟩
/-! law_values -/
--hold
--needs law_value
def sp_law_values (K : PySem.W.Frag) : Sp := fun vs H Q _ => ∃ (x y z : V) (fr : List Asn), vs = [x, y, z] ∧ VkF K fr x ∧ VkF K fr y ∧ VkF K fr z ∧ Sep fr H ∧ ∀ H', Q (.bl true) H'
theorem ok_law_values (T : Txt K mg A) : FnOk P w K mg base CX0 6 A.f_law_values A.fd_law_values ["one", "two", "three"] (sp_law_values K) := by
  refine T.F_law_values.ok sc_law_values (fun vs H Q E h => ?_) (fun cdv A' outer s0 H vs Q E hr h => ?_)
  · obtain ⟨x, y, z, fr, rfl, _⟩ := h
    rfl
  · obtain ⟨x, y, z, fr, rfl, hx, hy, hz, S, k⟩ := h
    refine ⟨_, (pss_cons (ps_set (i := 3) sc_law_values.nd rfl (.inl rfl) (pe_lst (pa_cons (pe_fldH (K := K) rfl (pe_mkH (K := K) rfl T.ek_BadWord T.oi_BadWord T.ot_BadWord (ok_BadWord___init__ (K := K) T) (hr.mono (by decide)) T.b_BadWord___init__ pass0 rfl T.vm_BadWord (pa_cons (pv 0) pa_nil))) (pa_cons (pe_fldH (K := K) rfl (pe_mkH (K := K) rfl T.ek_BadNumber T.oi_BadNumber T.ot_BadNumber (ok_BadNumber___init__ (K := K) T) (hr.mono (by decide)) T.b_BadNumber___init__ pass0 rfl T.vm_BadNumber (pa_cons (pv 0) pa_nil))) (pa_cons (pe_fldH (K := K) rfl (pe_mkH (K := K) rfl T.ek_BadCounts T.oi_BadCounts T.ot_BadCounts (ok_BadCounts___init__ (K := K) T) (hr.mono (by decide)) T.b_BadCounts___init__ pass0 rfl T.vm_BadCounts (pa_cons (pv 0) pa_nil))) (pa_cons (pe_fldH (K := K) rfl (pe_mkH (K := K) rfl T.ek_BadRule T.oi_BadRule T.ot_BadRule (ok_BadRule___init__ (K := K) T) (hr.mono (by decide)) T.b_BadRule___init__ pass0 rfl T.vm_BadRule (pa_cons (pv 0) pa_nil))) (pa_cons (pe_fldH (K := K) rfl (pe_mkH (K := K) rfl T.ek_BadRules T.oi_BadRules T.ot_BadRules (ok_BadRules___init__ (K := K) T) (hr.mono (by decide)) T.b_BadRules___init__ pass0 rfl T.vm_BadRules (pa_cons (pv 0) pa_nil))) pa_nil)))))))
      (pss_cons (ps_set (i := 3) sc_law_values.nd rfl (.inl rfl) (pe_op op_gAdd (pv 3) (pe_lst (pa_cons (pe_fldH (K := K) rfl (pe_mkH (K := K) rfl T.ek_BadDoor T.oi_BadDoor T.ot_BadDoor (ok_BadDoor___init__ (K := K) T) (hr.mono (by decide)) T.b_BadDoor___init__ pass0 rfl T.vm_BadDoor (pa_cons (pv 0) pa_nil))) (pa_cons (pe_fldH (K := K) rfl (pe_mkH (K := K) rfl T.ek_BadDesk T.oi_BadDesk T.ot_BadDesk (ok_BadDesk___init__ (K := K) T) (hr.mono (by decide)) T.b_BadDesk___init__ pass0 rfl T.vm_BadDesk (pa_cons (pv 0) pa_nil))) (pa_cons (pe_fldH (K := K) rfl (pe_mkH (K := K) rfl T.ek_BadText T.oi_BadText T.ot_BadText (ok_BadText___init__ (K := K) T) (hr.mono (by decide)) T.b_BadText___init__ pass0 rfl T.vm_BadText (pa_cons (pv 0) pa_nil))) (pa_cons (pe_fldH (K := K) rfl (pe_mkH (K := K) rfl T.ek_NotLoose T.oi_NotLoose T.ot_NotLoose (ok_NotLoose___init__ (K := K) T) (hr.mono (by decide)) T.b_NotLoose___init__ pass0 rfl T.vm_NotLoose (pa_cons (pv 0) pa_nil))) (pa_cons (pe_fldH (K := K) rfl (pe_mkH (K := K) rfl T.ek_Named T.oi_Named T.ot_Named (ok_Named___init__ (K := K) T) (hr.mono (by decide)) T.b_Named___init__ pass0 rfl T.vm_Named (pa_cons (pv 0) pa_nil))) pa_nil))))))))
      (pss_cons (ps_set (i := 3) sc_law_values.nd rfl (.inl rfl) (pe_op op_gAdd (pv 3) (pe_lst (pa_cons (pe_fldH (K := K) rfl (pe_mkH (K := K) rfl T.ek_Full T.oi_Full T.ot_Full (ok_Full___init__ (K := K) T) (hr.mono (by decide)) T.b_Full___init__ pass0 rfl T.vm_Full (pa_cons (pv 0) pa_nil))) (pa_cons (pe_fldH (K := K) rfl (pe_mkH (K := K) rfl T.ek_NoPick T.oi_NoPick T.ot_NoPick (ok_NoPick___init__ (K := K) T) (hr.mono (by decide)) T.b_NoPick___init__ pass0 rfl T.vm_NoPick (pa_cons (pv 0) pa_nil))) (pa_cons (pe_fldH (K := K) rfl (pe_mkH (K := K) rfl T.ek_Broken T.oi_Broken T.ot_Broken (ok_Broken___init__ (K := K) T) (hr.mono (by decide)) T.b_Broken___init__ pass0 rfl T.vm_Broken (pa_cons (pv 0) pa_nil))) (pa_cons (pe_fldH (K := K) rfl (pe_mkH (K := K) rfl T.ek_BadHistory T.oi_BadHistory T.ot_BadHistory (ok_BadHistory___init__ (K := K) T) (hr.mono (by decide)) T.b_BadHistory___init__ pass0 rfl T.vm_BadHistory (pa_cons (pv 0) pa_nil))) pa_nil)))))))
      (pss_cons (ps_set (i := 3) sc_law_values.nd rfl (.inl rfl) (pe_op op_gAdd (pv 3) (pe_lst (pa_cons (pe_fldH (K := K) rfl (pe_mkH (K := K) rfl T.ek_BadStanding T.oi_BadStanding T.ot_BadStanding (ok_BadStanding___init__ (K := K) T) (hr.mono (by decide)) T.b_BadStanding___init__ pass0 rfl T.vm_BadStanding (pa_cons (pv 0) pa_nil))) (pa_cons (pe_fldH (K := K) rfl (pe_mkH (K := K) rfl T.ek_BadWay T.oi_BadWay T.ot_BadWay (ok_BadWay___init__ (K := K) T) (hr.mono (by decide)) T.b_BadWay___init__ pass0 rfl T.vm_BadWay (pa_cons (pv 0) pa_nil))) (pa_cons (pe_fldH (K := K) rfl (pe_mkH (K := K) rfl T.ek_NoWay T.oi_NoWay T.ot_NoWay (ok_NoWay___init__ (K := K) T) (hr.mono (by decide)) T.b_NoWay___init__ pass0 rfl T.vm_NoWay (pa_cons (pv 0) pa_nil))) (pa_cons (pe_fldH (K := K) rfl (pe_mkH (K := K) rfl T.ek_TooMany T.oi_TooMany T.ot_TooMany (ok_TooMany___init__ (K := K) T) (hr.mono (by decide)) T.b_TooMany___init__ pass0 rfl T.vm_TooMany (pa_cons (pv 0) pa_nil))) pa_nil)))))))
      (pss_cons (ps_set (i := 3) sc_law_values.nd rfl (.inl rfl) (pe_op op_gAdd (pv 3) (pe_lst (pa_cons (pe_fldH (K := K) rfl (pe_mkH (K := K) rfl T.ek_NoDoor T.oi_NoDoor T.ot_NoDoor (ok_NoDoor___init__ (K := K) T) (hr.mono (by decide)) T.b_NoDoor___init__ pass0 rfl T.vm_NoDoor (pa_cons (pv 0) pa_nil))) (pa_cons (pe_fldH (K := K) rfl (pe_mkH (K := K) rfl T.ek_NoBegin T.oi_NoBegin T.ot_NoBegin (ok_NoBegin___init__ (K := K) T) (hr.mono (by decide)) T.b_NoBegin___init__ pass0 rfl T.vm_NoBegin (pa_cons (pv 0) pa_nil))) (pa_cons (pe_fldH (K := K) rfl (pe_mkH (K := K) rfl T.ek_NoOwner T.oi_NoOwner T.ot_NoOwner (ok_NoOwner___init__ (K := K) T) (hr.mono (by decide)) T.b_NoOwner___init__ pass0 rfl T.vm_NoOwner (pa_cons (pv 0) pa_nil))) (pa_cons (pe_fldH (K := K) rfl (pe_mkH (K := K) rfl T.ek_NoRow T.oi_NoRow T.ot_NoRow (ok_NoRow___init__ (K := K) T) (hr.mono (by decide)) T.b_NoRow___init__ pass0 rfl T.vm_NoRow (pa_cons (pv 0) pa_nil))) (pa_cons (pe_fldH (K := K) rfl (pe_mkH (K := K) rfl T.ek_NoRule T.oi_NoRule T.ot_NoRule (ok_NoRule___init__ (K := K) T) (hr.mono (by decide)) T.b_NoRule___init__ pass0 rfl T.vm_NoRule (pa_cons (pv 0) pa_nil))) pa_nil))))))))
      (pss_cons (ps_set (i := 3) sc_law_values.nd rfl (.inl rfl) (pe_op op_gAdd (pv 3) (pe_lst (pa_cons (pe_fldH (K := K) rfl (pe_mkH (K := K) rfl T.ek_NoDivisor T.oi_NoDivisor T.ot_NoDivisor (ok_NoDivisor___init__ (K := K) T) (hr.mono (by decide)) T.b_NoDivisor___init__ pass0 rfl T.vm_NoDivisor (pa_cons (pv 0) pa_nil))) (pa_cons (pe_fldH (K := K) rfl (pe_mkH (K := K) rfl T.ek_Waits T.oi_Waits T.ot_Waits (ok_Waits___init__ (K := K) T) (hr.mono (by decide)) T.b_Waits___init__ pass0 rfl T.vm_Waits (pa_cons (pv 0) pa_nil))) (pa_cons (pe_fldH (K := K) rfl (pe_mkH (K := K) rfl T.ek_Over T.oi_Over T.ot_Over (ok_Over___init__ (K := K) T) (hr.mono (by decide)) T.b_Over___init__ pass0 rfl T.vm_Over (pa_cons (pv 0) pa_nil))) (pa_cons (pe_fldH (K := K) rfl (pe_mkH (K := K) rfl T.ek_Busy T.oi_Busy T.ot_Busy (ok_Busy___init__ (K := K) T) (hr.mono (by decide)) T.b_Busy___init__ pass0 rfl T.vm_Busy (pa_cons (pv 0) pa_nil))) pa_nil)))))))
      (pss_cons (ps_set (i := 4) sc_law_values.nd rfl (.inl rfl) (pe_mkH (K := K) rfl T.ek_Unfit T.oi_Unfit T.ot_Unfit (ok_Unfit___init__ (K := K) T) (hr.mono (by decide)) T.b_Unfit___init__ pass0 rfl T.vm_Unfit (pa_cons (pv 0) (pa_cons (pv 1) pa_nil))))
      (pss_cons (ps_set (i := 5) sc_law_values.nd rfl (.inl rfl) (pe_mkH (K := K) rfl T.ek_Refused T.oi_Refused T.ot_Refused (ok_Refused___init__ (K := K) T) (hr.mono (by decide)) T.b_Refused___init__ pass0 rfl T.vm_Refused (pa_cons (pv 0) (pa_cons (pv 1) (pa_cons (pv 2) pa_nil)))))
      (pss_cons (ps_if (pt_cmpR (op_gNe (K := K) rfl hr.units) (pe_lst (pa_cons (pe_fldH (K := K) rfl (pv 4)) (pa_cons (pe_fldH (K := K) rfl (pv 4)) (pa_cons (pe_fldH (K := K) rfl (pv 5)) (pa_cons (pe_fldH (K := K) rfl (pv 5)) (pa_cons (pe_fldH (K := K) rfl (pv 5)) pa_nil)))))) (pe_lst (pa_cons (pv 0) (pa_cons (pv 1) (pa_cons (pv 0) (pa_cons (pv 1) (pa_cons (pv 2) pa_nil)))))) (nomark _)) (pss_one (ps_ret pe_bl)) pss_nil)
      (pss_cons (ps_for PassesOwn.never rfl (pi_gList (K := K) rfl (pv 3)) (pg_name (i := 6) sc_law_values.nd rfl (.inl rfl)) (pss_one (ps_if (PW.pt (pw_or (pt_cmpR (op_gNe (K := K) rfl hr.units) (pv 6) (pv 0) (nomark _)) (pw_or1 (pt_cmpR (op_gNe (K := K) rfl hr.units) (pe_callB (call_gIsi (K := K) rfl) (by rfl) T.n_isinstance (by decide +kernel) (pa_cons (pv 6) (pa_cons (pe_bltn (v := .ty "bool") (by rfl) T.n_bool (by decide +kernel) rfl) pa_nil))) (pe_callB (call_gIsi (K := K) rfl) (by rfl) T.n_isinstance (by decide +kernel) (pa_cons (pv 0) (pa_cons (pe_bltn (v := .ty "bool") (by rfl) T.n_bool (by decide +kernel) rfl) pa_nil))) (nomark _))))) (pss_one (ps_ret pe_bl)) pss_nil)))
      (pss_one (ps_ret (pe_cmpR (op_gEq (K := K) rfl hr.units) (pe_callB (call_gLen (K := K) rfl) (by rfl) T.n_len (by decide +kernel) (pa_cons (pv 3) pa_nil)) pe_int (nomark _)))))))))))))), ?_⟩
    walk_at "v"
    refine gl_one S T.ox_BadWord T.xf_BadWord T.xn_BadWord_word fun H1 S1 => ?_
    clear S
    walk_at "v"
    refine gl_one S1 T.ox_BadNumber T.xf_BadNumber T.xn_BadNumber_number fun H2 S2 => ?_
    clear S1
    walk_at "v"
    refine gl_one S2 T.ox_BadCounts T.xf_BadCounts T.xn_BadCounts_at fun H3 S3 => ?_
    clear S2
    walk_at "v"
    refine gl_one S3 T.ox_BadRule T.xf_BadRule T.xn_BadRule_what fun H4 S4 => ?_
    clear S3
    walk_at "v"
    refine gl_one S4 T.ox_BadRules T.xf_BadRules T.xn_BadRules_what fun H5 S5 => ?_
    clear S4
    walk_at "v"
    rename_i p0 J0 U0
    refine gl_one U0 T.ox_BadDoor T.xf_BadDoor T.xn_BadDoor_at fun H6 S6 => ?_
    clear U0
    walk_at "v"
    refine gl_one S6 T.ox_BadDesk T.xf_BadDesk T.xn_BadDesk_what fun H7 S7 => ?_
    clear S6
    walk_at "v"
    refine gl_one S7 T.ox_BadText T.xf_BadText T.xn_BadText_at fun H8 S8 => ?_
    clear S7
    walk_at "v"
    refine gl_one S8 T.ox_NotLoose T.xf_NotLoose T.xn_NotLoose_kind fun H9 S9 => ?_
    clear S8
    walk_at "v"
    refine gl_one S9 T.ox_Named T.xf_Named T.xn_Named_row fun H10 S10 => ?_
    clear S9
    walk_at "v"
    rename_i p1 J1 U1
    refine o_cat U1 (hasS has0) has0 (by rw [sizeLine_eq]; simp only [List.length_append, List.length_cons, List.length_nil]; decide) fun r1 K1 W1 => ?_
    have X1 := W1.dr1.dr1
    clear S10 U1 W1
    walk_at "v"
    refine gl_one X1 T.ox_Full T.xf_Full T.xn_Full_owner fun H11 S11 => ?_
    clear X1
    walk_at "v"
    refine gl_one S11 T.ox_NoPick T.xf_NoPick T.xn_NoPick_pick fun H12 S12 => ?_
    clear S11
    walk_at "v"
    refine gl_one S12 T.ox_Broken T.xf_Broken T.xn_Broken_rules fun H13 S13 => ?_
    clear S12
    walk_at "v"
    refine gl_one S13 T.ox_BadHistory T.xf_BadHistory T.xn_BadHistory_at fun H14 S14 => ?_
    clear S13
    walk_at "v"
    rename_i p2 J2 U2
    refine o_cat U2 (hasS has0) has0 (by rw [sizeLine_eq]; simp only [List.length_append, List.length_cons, List.length_nil]; decide) fun r2 K2 W2 => ?_
    have X2 := W2.dr1.dr1
    clear S14 U2 W2
    walk_at "v"
    refine gl_one X2 T.ox_BadStanding T.xf_BadStanding T.xn_BadStanding_standing fun H15 S15 => ?_
    clear X2
    walk_at "v"
    refine gl_one S15 T.ox_BadWay T.xf_BadWay T.xn_BadWay_at fun H16 S16 => ?_
    clear S15
    walk_at "v"
    refine gl_one S16 T.ox_NoWay T.xf_NoWay T.xn_NoWay_standing fun H17 S17 => ?_
    clear S16
    walk_at "v"
    refine gl_one S17 T.ox_TooMany T.xf_TooMany T.xn_TooMany_what fun H18 S18 => ?_
    clear S17
    walk_at "v"
    rename_i p3 J3 U3
    refine o_cat U3 (hasS has0) has0 (by rw [sizeLine_eq]; simp only [List.length_append, List.length_cons, List.length_nil]; decide) fun r3 K3 W3 => ?_
    have X3 := W3.dr1.dr1
    clear S18 U3 W3
    walk_at "v"
    refine gl_oneb X3 T.ob_NoDoor T.xf_NoDoor T.xn_NoDoor_name fun H19 S19 => ?_
    clear X3
    walk_at "v"
    refine gl_oneb S19 T.ob_NoBegin T.xf_NoBegin T.xn_NoBegin_index fun H20 S20 => ?_
    clear S19
    walk_at "v"
    refine gl_oneb S20 T.ob_NoOwner T.xf_NoOwner T.xn_NoOwner_owner fun H21 S21 => ?_
    clear S20
    walk_at "v"
    refine gl_oneb S21 T.ob_NoRow T.xf_NoRow T.xn_NoRow_row fun H22 S22 => ?_
    clear S21
    walk_at "v"
    refine gl_oneb S22 T.ob_NoRule T.xf_NoRule T.xn_NoRule_rule fun H23 S23 => ?_
    clear S22
    walk_at "v"
    rename_i p4 J4 U4
    refine o_cat U4 (hasS has0) has0 (by rw [sizeLine_eq]; simp only [List.length_append, List.length_cons, List.length_nil]; decide) fun r4 K4 W4 => ?_
    have X4 := W4.dr1.dr1
    clear S23 U4 W4
    walk_at "v"
    refine gl_oneb X4 T.ob_NoDivisor T.xf_NoDivisor T.xn_NoDivisor_word fun H24 S24 => ?_
    clear X4
    walk_at "v"
    refine gl_oneb S24 T.ob_Waits T.xf_Waits T.xn_Waits_owner fun H25 S25 => ?_
    clear S24
    walk_at "v"
    refine gl_oneb S25 T.ob_Over T.xf_Over T.xn_Over_number fun H26 S26 => ?_
    clear S25
    walk_at "v"
    refine gl_oneb S26 T.ob_Busy T.xf_Busy T.xn_Busy_owner fun H27 S27 => ?_
    clear S26
    walk_at "v"
    rename_i p5 J5 U5
    refine o_cat U5 (hasS has0) has0 (by rw [sizeLine_eq]; simp only [List.length_append, List.length_cons, List.length_nil]; decide) fun r5 K5 W5 => ?_
    have X5 := W5.dr1.dr1
    clear S27 U5 W5
    walk_at "v"
    have n1 : (("line" : Str) == "door") = false := by decide +kernel
    have n2 : (("door" : Str) == "line") = false := by decide +kernel
    have n3 : (("door" : Str) == "why") = false := by decide +kernel
    have n4 : (("line" : Str) == "why") = false := by decide +kernel
    obtain ⟨L, hL⟩ : ∃ L : List V, L = [x, x, x, x, x] ++ [x, x, x, x, x] ++ [x, x, x, x] ++ [x, x, x, x] ++ [x, x, x, x, x] ++ [x, x, x, x] := ⟨_, rfl⟩
    have hLx : ∀ v ∈ L, v = x := by
      intro v hv
      rw [hL] at hv
      simpa using hv
    have hLl : L.length = 27 := by rw [hL]; rfl
    rw [← hL] at X5
    refine mkH2 X5 T.ox_Unfit T.xn_Unfit_door T.xn_Unfit_line fun u Hu Su => ?_
    walk_at "v"
    refine mkH3b Su T.ob_Refused T.xn_Refused_door T.xn_Refused_line T.xn_Refused_why fun t Ht St => ?_
    clear X5 Su
    walk_at "v"
    refine f_er St (i := 1) rfl T.xf_Unfit T.xn_Unfit_door (v := x) (by simp [List.lookup, n2]) ?_
    walk_at "v"
    refine f_er St (i := 1) rfl T.xf_Unfit T.xn_Unfit_line (v := y) (by simp [List.lookup]) ?_
    walk_at "v"
    refine f_er St (i := 0) rfl T.xf_Refused T.xn_Refused_door (v := x) (by simp [List.lookup, n2, n3]) ?_
    walk_at "v"
    refine f_er St (i := 0) rfl T.xf_Refused T.xn_Refused_line (v := y) (by simp [List.lookup, n4]) ?_
    walk_at "v"
    refine f_er St (i := 0) rfl T.xf_Refused T.xn_Refused_why (v := z) (by simp [List.lookup]) ?_
    walk_at "v"
    rename_i a1 G1 V1 a2 G2 V2
    have SS : Sep fr G2 := V2.tail.tail.tail.tail.tail
    obtain ⟨dx, Tx, bx, x1, x2, x3, x4, x5⟩ := hx
    obtain ⟨dy, Ty, b_y, y1, y2, y3, y4, y5⟩ := hy
    obtain ⟨dz, Tz, bz, z1, z2, z3, z4, z5⟩ := hz
    have qx := (x5 _ SS).1
    have qy := (y5 _ SS).1
    have qz := (z5 _ SS).1
    have sh : SeqAt.shaped (.list [dx, dy, dx, dy, dz]) = true := by
      unfold SeqAt.shaped
      simp only [PyData.canLay0, PyData.canLayAll0, PyData.depth, PyData.depthAll, x1, y1, z1, Bool.and_self, Bool.true_and]
      exact decide_eq_true (by omega)
    have eq5 : PyData.eqv (.list [dx, dy, dx, dy, dz]) (.list [dx, dy, dx, dy, dz]) = true := by
      rw [PyData.eqv]
      simp [PyData.eqvAll, x3, y3, z3]
    refine .inr ⟨_, _, .lst (SqL.of (V2.at (i := 1) rfl)) (.cons qx (.cons qy (.cons qx (.cons qy (.cons qz .nil))))), .lst (SqL.of (V2.at (i := 0) rfl)) (.cons qx (.cons qy (.cons qx (.cons qy (.cons qz .nil))))), sh, sh, ?_⟩
    rw [eq5]
    walk_at "v"
    have V3 : Sep (At r5 (.lst L) :: fr) G2 := V2.tail.tail.tail.tail
    refine forL V3 has0 (fun i σ H => ∃ e, σ = [some x, some y, some z, some (.ref r5), some (.ref u), some (.ref t), e] ∧ Sep (At r5 (.lst L) :: fr) H) ⟨_, rfl, V3⟩ (fun i σ H ⟨e, _, S'⟩ => S'.at (i := 0) rfl) ?_ ?_
    · rintro i v σ H9 hv ⟨e, rfl, S9⟩
      cases hLx v (List.mem_of_getElem? hv)
      have sx : SeqAt.shaped dx = true := by
        unfold SeqAt.shaped
        rw [x1, Bool.true_and]
        exact decide_eq_true (by omega)
      have q9 := x5 _ S9.tail
      walk_at "v"
      refine .inr ⟨dx, dx, q9.1, q9.1, sx, sx, ?_⟩
      rw [x3]
      walk_at "v"
      refine i_ty q9.2 x4 ?_
      walk_at "v"
      refine i_ty q9.2 x4 ?_
      walk_at "v"
      cases bx
      · walk_at "v"
        exact ⟨_, rfl, S9⟩
      · walk_at "v"
        exact ⟨_, rfl, S9⟩
    · rintro σ H9 ⟨e, rfl, S9⟩
      walk_at "v"
      rw [hLl]
      exact k _
theorem c_values {K : PySem.W.Frag} {fr : List Asn} {H : Hp} {x y z : V} {Q : VK} {E : XK} (S : Sep fr H) (hx : VkF K fr x) (hy : VkF K fr y) (hz : VkF K fr z) (k : ∀ H', Q (.bl true) H') : sp_law_values K [x, y, z] H Q E := ⟨x, y, z, fr, rfl, hx, hy, hz, S, k⟩
/-! law_bases -/
--hold
def basB (A : Ad) (mro : List Value) : List Bool := [mro.contains (.ref A.c_CountsheldError), mro.contains (.type "ValueError"), mro.contains (.type "LookupError"), mro.contains (.type "ZeroDivisionError"), mro.contains (.type "RuntimeError")]
def sp_law_bases (K : PySem.W.Frag) (A : Ad) : Sp := fun vs H Q _ => ∃ (a C : Addr) (bm : List Value) (fr : List Asn), vs = [.ref a] ∧ (∀ H', Sep fr H' → ErO H' a C) ∧ ExcC K C ∧ EcK K C bm ∧ Sep fr H ∧ ∀ D H', Sep (At D (.lst ((basB A (.ref C :: bm)).map V.bl)) :: fr) H' → Q (.ref D) H'
theorem ok_law_bases (T : Txt K mg A) : FnOk P w K mg base CX0 1 A.f_law_bases A.fd_law_bases ["e"] (sp_law_bases K A) := by
  refine T.F_law_bases.ok sc_law_bases (fun vs H Q E h => ?_) (fun cdv A' outer s0 H vs Q E hr h => ?_)
  · obtain ⟨a, C, bm, fr, rfl, _⟩ := h
    rfl
  · obtain ⟨a, C, bm, fr, rfl, hE, hX, hC, S, k⟩ := h
    refine ⟨_, (pss_cons (ps_set (i := 1) sc_law_bases.nd rfl (.inl rfl) (pe_lst (pa_cons (pe_callB (call_isH (K := K) rfl) (by rfl) T.n_isinstance (by decide +kernel) (pa_cons (pv 0) (pa_cons (pe_glob (v := .ref A.c_CountsheldError) rfl T.vm_CountsheldError rfl) pa_nil))) (pa_cons (pe_callB (call_isH (K := K) rfl) (by rfl) T.n_isinstance (by decide +kernel) (pa_cons (pv 0) (pa_cons (pe_bltn (v := .ty "ValueError") (by rfl) T.n_ValueError (by decide +kernel) rfl) pa_nil))) (pa_cons (pe_callB (call_isH (K := K) rfl) (by rfl) T.n_isinstance (by decide +kernel) (pa_cons (pv 0) (pa_cons (pe_bltn (v := .ty "LookupError") (by rfl) T.n_LookupError (by decide +kernel) rfl) pa_nil))) pa_nil)))))
      (pss_one (ps_ret (pe_op op_gAdd (pv 1) (pe_lst (pa_cons (pe_callB (call_isH (K := K) rfl) (by rfl) T.n_isinstance (by decide +kernel) (pa_cons (pv 0) (pa_cons (pe_bltn (v := .ty "ZeroDivisionError") (by rfl) T.n_ZeroDivisionError (by decide +kernel) rfl) pa_nil))) (pa_cons (pe_callB (call_isH (K := K) rfl) (by rfl) T.n_isinstance (by decide +kernel) (pa_cons (pv 0) (pa_cons (pe_bltn (v := .ty "RuntimeError") (by rfl) T.n_RuntimeError (by decide +kernel) rfl) pa_nil))) pa_nil))))))), ?_⟩
    walk_at "v"
    refine c_isH (hE _ S) hX (.own _) (hC.kit T.ek_CountsheldError) ?_
    walk_at "v"
    refine c_isH (hE _ S) hX (.ty "ValueError") (hC.kitT "ValueError" (by decide +kernel)) ?_
    walk_at "v"
    refine c_isH (hE _ S) hX (.ty "LookupError") (hC.kitT "LookupError" (by decide +kernel)) ?_
    walk_at "v"
    rename_i q1 Hq1 Sq1
    refine c_isH (hE _ Sq1.tail) hX (.ty "ZeroDivisionError") (hC.kitT "ZeroDivisionError" (by decide +kernel)) ?_
    walk_at "v"
    refine c_isH (hE _ Sq1.tail) hX (.ty "RuntimeError") (hC.kitT "RuntimeError" (by decide +kernel)) ?_
    walk_at "v"
    rename_i q2 Hq2 Sq2
    refine o_cat Sq2 (hasS has0) has0 (by rw [sizeLine_eq]; simp only [List.length_append, List.length_cons, List.length_nil]; decide) fun r2 Hr2 Sr2 => ?_
    exact k _ _ Sr2.dr1.dr1
theorem c_bases {K : PySem.W.Frag} {A : Ad} {l : List Asn} {H : Hp} {a C : Addr} {bm : List Value} {Q : VK} {E : XK} (S : Sep l H) (hE : ∀ H', Sep l H' → ErO H' a C) (hX : ExcC K C) (hC : EcK K C bm) (k : ∀ D H', Sep (At D (.lst ((basB A (.ref C :: bm)).map V.bl)) :: l) H' → Q (.ref D) H') : sp_law_bases K A [.ref a] H Q E := ⟨a, C, bm, l, rfl, hE, hX, hC, S, k⟩
/-! law_first -/
--hold
/-- which of these classes it is -/
def isB (mro : List Value) (zs : List Addr) : List Bool := zs.map fun z => mro.contains (.ref z)
def zsA (A : Ad) : List Addr := [A.c_BadWord, A.c_BadNumber, A.c_BadCounts, A.c_BadRule, A.c_BadRules, A.c_BadDoor, A.c_Unfit, A.c_BadDesk, A.c_BadText, A.c_NotLoose, A.c_Named, A.c_Full, A.c_NoPick, A.c_Broken, A.c_BadHistory, A.c_BadStanding, A.c_BadWay, A.c_NoWay, A.c_NotKept, A.c_TooMany]
def sp_law_first (K : PySem.W.Frag) (A : Ad) : Sp := fun vs H Q _ => ∃ (a C : Addr) (bm : List Value) (fr : List Asn), vs = [.ref a] ∧ (∀ H', Sep fr H' → ErO H' a C) ∧ ExcC K C ∧ EcK K C bm ∧ Sep fr H ∧ ∀ D H', Sep (At D (.lst ((isB (.ref C :: bm) (zsA A)).map V.bl)) :: fr) H' → Q (.ref D) H'
theorem ok_law_first (T : Txt K mg A) : FnOk P w K mg base CX0 1 A.f_law_first A.fd_law_first ["e"] (sp_law_first K A) := by
  refine T.F_law_first.ok sc_law_first (fun vs H Q E h => ?_) (fun cdv A' outer s0 H vs Q E hr h => ?_)
  · obtain ⟨a, C, bm, fr, rfl, _⟩ := h
    rfl
  · obtain ⟨a, C, bm, fr, rfl, hE, hX, hC, S, k⟩ := h
    refine ⟨_, (pss_cons (ps_set (i := 1) sc_law_first.nd rfl (.inl rfl) (pe_lst (pa_cons (pe_callB (call_isH (K := K) rfl) (by rfl) T.n_isinstance (by decide +kernel) (pa_cons (pv 0) (pa_cons (pe_glob (v := .ref A.c_BadWord) rfl T.vm_BadWord rfl) pa_nil))) (pa_cons (pe_callB (call_isH (K := K) rfl) (by rfl) T.n_isinstance (by decide +kernel) (pa_cons (pv 0) (pa_cons (pe_glob (v := .ref A.c_BadNumber) rfl T.vm_BadNumber rfl) pa_nil))) (pa_cons (pe_callB (call_isH (K := K) rfl) (by rfl) T.n_isinstance (by decide +kernel) (pa_cons (pv 0) (pa_cons (pe_glob (v := .ref A.c_BadCounts) rfl T.vm_BadCounts rfl) pa_nil))) (pa_cons (pe_callB (call_isH (K := K) rfl) (by rfl) T.n_isinstance (by decide +kernel) (pa_cons (pv 0) (pa_cons (pe_glob (v := .ref A.c_BadRule) rfl T.vm_BadRule rfl) pa_nil))) pa_nil))))))
      (pss_cons (ps_set (i := 1) sc_law_first.nd rfl (.inl rfl) (pe_op op_gAdd (pv 1) (pe_lst (pa_cons (pe_callB (call_isH (K := K) rfl) (by rfl) T.n_isinstance (by decide +kernel) (pa_cons (pv 0) (pa_cons (pe_glob (v := .ref A.c_BadRules) rfl T.vm_BadRules rfl) pa_nil))) (pa_cons (pe_callB (call_isH (K := K) rfl) (by rfl) T.n_isinstance (by decide +kernel) (pa_cons (pv 0) (pa_cons (pe_glob (v := .ref A.c_BadDoor) rfl T.vm_BadDoor rfl) pa_nil))) (pa_cons (pe_callB (call_isH (K := K) rfl) (by rfl) T.n_isinstance (by decide +kernel) (pa_cons (pv 0) (pa_cons (pe_glob (v := .ref A.c_Unfit) rfl T.vm_Unfit rfl) pa_nil))) (pa_cons (pe_callB (call_isH (K := K) rfl) (by rfl) T.n_isinstance (by decide +kernel) (pa_cons (pv 0) (pa_cons (pe_glob (v := .ref A.c_BadDesk) rfl T.vm_BadDesk rfl) pa_nil))) pa_nil)))))))
      (pss_cons (ps_set (i := 1) sc_law_first.nd rfl (.inl rfl) (pe_op op_gAdd (pv 1) (pe_lst (pa_cons (pe_callB (call_isH (K := K) rfl) (by rfl) T.n_isinstance (by decide +kernel) (pa_cons (pv 0) (pa_cons (pe_glob (v := .ref A.c_BadText) rfl T.vm_BadText rfl) pa_nil))) (pa_cons (pe_callB (call_isH (K := K) rfl) (by rfl) T.n_isinstance (by decide +kernel) (pa_cons (pv 0) (pa_cons (pe_glob (v := .ref A.c_NotLoose) rfl T.vm_NotLoose rfl) pa_nil))) (pa_cons (pe_callB (call_isH (K := K) rfl) (by rfl) T.n_isinstance (by decide +kernel) (pa_cons (pv 0) (pa_cons (pe_glob (v := .ref A.c_Named) rfl T.vm_Named rfl) pa_nil))) (pa_cons (pe_callB (call_isH (K := K) rfl) (by rfl) T.n_isinstance (by decide +kernel) (pa_cons (pv 0) (pa_cons (pe_glob (v := .ref A.c_Full) rfl T.vm_Full rfl) pa_nil))) pa_nil)))))))
      (pss_cons (ps_set (i := 1) sc_law_first.nd rfl (.inl rfl) (pe_op op_gAdd (pv 1) (pe_lst (pa_cons (pe_callB (call_isH (K := K) rfl) (by rfl) T.n_isinstance (by decide +kernel) (pa_cons (pv 0) (pa_cons (pe_glob (v := .ref A.c_NoPick) rfl T.vm_NoPick rfl) pa_nil))) (pa_cons (pe_callB (call_isH (K := K) rfl) (by rfl) T.n_isinstance (by decide +kernel) (pa_cons (pv 0) (pa_cons (pe_glob (v := .ref A.c_Broken) rfl T.vm_Broken rfl) pa_nil))) (pa_cons (pe_callB (call_isH (K := K) rfl) (by rfl) T.n_isinstance (by decide +kernel) (pa_cons (pv 0) (pa_cons (pe_glob (v := .ref A.c_BadHistory) rfl T.vm_BadHistory rfl) pa_nil))) pa_nil))))))
      (pss_cons (ps_expr (pe_gBm (K := K) rfl PySem.F.plainAttrs_list PySem.F.slot_list_append PySem.F.type_list_append mt_append (pv 1) (pa_cons (pe_callB (call_isH (K := K) rfl) (by rfl) T.n_isinstance (by decide +kernel) (pa_cons (pv 0) (pa_cons (pe_glob (v := .ref A.c_BadStanding) rfl T.vm_BadStanding rfl) pa_nil))) pa_nil)))
      (pss_one (ps_ret (pe_op op_gAdd (pv 1) (pe_lst (pa_cons (pe_callB (call_isH (K := K) rfl) (by rfl) T.n_isinstance (by decide +kernel) (pa_cons (pv 0) (pa_cons (pe_glob (v := .ref A.c_BadWay) rfl T.vm_BadWay rfl) pa_nil))) (pa_cons (pe_callB (call_isH (K := K) rfl) (by rfl) T.n_isinstance (by decide +kernel) (pa_cons (pv 0) (pa_cons (pe_glob (v := .ref A.c_NoWay) rfl T.vm_NoWay rfl) pa_nil))) (pa_cons (pe_callB (call_isH (K := K) rfl) (by rfl) T.n_isinstance (by decide +kernel) (pa_cons (pv 0) (pa_cons (pe_glob (v := .ref A.c_NotKept) rfl T.vm_NotKept rfl) pa_nil))) (pa_cons (pe_callB (call_isH (K := K) rfl) (by rfl) T.n_isinstance (by decide +kernel) (pa_cons (pv 0) (pa_cons (pe_glob (v := .ref A.c_TooMany) rfl T.vm_TooMany rfl) pa_nil))) pa_nil))))))))))))), ?_⟩
    walk_at "v"
    refine c_isH (hE _ S) hX (.own _) (hC.kit T.ek_BadWord) ?_
    walk_at "v"
    refine c_isH (hE _ S) hX (.own _) (hC.kit T.ek_BadNumber) ?_
    walk_at "v"
    refine c_isH (hE _ S) hX (.own _) (hC.kit T.ek_BadCounts) ?_
    walk_at "v"
    refine c_isH (hE _ S) hX (.own _) (hC.kit T.ek_BadRule) ?_
    walk_at "v"
    rename_i q1 Hq1 Sq1
    refine c_isH (hE _ Sq1.tail) hX (.own _) (hC.kit T.ek_BadRules) ?_
    walk_at "v"
    refine c_isH (hE _ Sq1.tail) hX (.own _) (hC.kit T.ek_BadDoor) ?_
    walk_at "v"
    refine c_isH (hE _ Sq1.tail) hX (.own _) (hC.kit T.ek_Unfit) ?_
    walk_at "v"
    refine c_isH (hE _ Sq1.tail) hX (.own _) (hC.kit T.ek_BadDesk) ?_
    walk_at "v"
    rename_i q2 Hq2 Sq2
    refine o_cat Sq2 (hasS has0) has0 (by rw [sizeLine_eq]; simp only [List.length_append, List.length_cons, List.length_nil]; decide) fun r2 Hr2 Sr2 => ?_
    have Sd2 := Sr2.dr1.dr1
    clear Sq2 Sr2
    walk_at "v"
    refine c_isH (hE _ Sd2.tail) hX (.own _) (hC.kit T.ek_BadText) ?_
    walk_at "v"
    refine c_isH (hE _ Sd2.tail) hX (.own _) (hC.kit T.ek_NotLoose) ?_
    walk_at "v"
    refine c_isH (hE _ Sd2.tail) hX (.own _) (hC.kit T.ek_Named) ?_
    walk_at "v"
    refine c_isH (hE _ Sd2.tail) hX (.own _) (hC.kit T.ek_Full) ?_
    walk_at "v"
    rename_i q3 Hq3 Sq3
    refine o_cat Sq3 (hasS has0) has0 (by rw [sizeLine_eq]; simp only [List.length_append, List.length_cons, List.length_nil]; decide) fun r3 Hr3 Sr3 => ?_
    have Sd3 := Sr3.dr1.dr1
    clear Sq3 Sr3
    walk_at "v"
    refine c_isH (hE _ Sd3.tail) hX (.own _) (hC.kit T.ek_NoPick) ?_
    walk_at "v"
    refine c_isH (hE _ Sd3.tail) hX (.own _) (hC.kit T.ek_Broken) ?_
    walk_at "v"
    refine c_isH (hE _ Sd3.tail) hX (.own _) (hC.kit T.ek_BadHistory) ?_
    walk_at "v"
    rename_i q4 Hq4 Sq4
    refine o_cat Sq4 (hasS has0) has0 (by rw [sizeLine_eq]; simp only [List.length_append, List.length_cons, List.length_nil]; decide) fun r4 Hr4 Sr4 => ?_
    have Sd4 := Sr4.dr1.dr1
    clear Sq4 Sr4
    walk_at "v"
    refine c_isH (hE _ Sd4.tail) hX (.own _) (hC.kit T.ek_BadStanding) ?_
    walk_at "v"
    refine m_append Sd4 has0 (by simp only [List.length_append, List.length_cons, List.length_nil]; decide) fun Ha5 Sa5 => ?_
    walk_at "v"
    refine c_isH (hE _ Sa5.tail) hX (.own _) (hC.kit T.ek_BadWay) ?_
    walk_at "v"
    refine c_isH (hE _ Sa5.tail) hX (.own _) (hC.kit T.ek_NoWay) ?_
    walk_at "v"
    refine c_isH (hE _ Sa5.tail) hX (.own _) (hC.kit T.ek_NotKept) ?_
    walk_at "v"
    refine c_isH (hE _ Sa5.tail) hX (.own _) (hC.kit T.ek_TooMany) ?_
    walk_at "v"
    rename_i q6 Hq6 Sq6
    refine o_cat Sq6 (hasS has0) has0 (by rw [sizeLine_eq]; simp only [List.length_append, List.length_cons, List.length_nil]; decide) fun r6 Hr6 Sr6 => ?_
    have Sd6 := Sr6.dr1.dr1
    clear Sq6 Sr6
    exact k _ _ Sd6
theorem c_first {K : PySem.W.Frag} {A : Ad} {l : List Asn} {H : Hp} {a C : Addr} {bm : List Value} {Q : VK} {E : XK} (S : Sep l H) (hE : ∀ H', Sep l H' → ErO H' a C) (hX : ExcC K C) (hC : EcK K C bm) (k : ∀ D H', Sep (At D (.lst ((isB (.ref C :: bm) (zsA A)).map V.bl)) :: l) H' → Q (.ref D) H') : sp_law_first K A [.ref a] H Q E := ⟨a, C, bm, l, rfl, hE, hX, hC, S, k⟩
/-! law_row -/
--hold
def rowB (i n : Nat) : List Bool := (List.range n).map fun k => decide (k = i)
def sp_law_row : Sp := fun vs H Q _ => ∃ (i n : Nat) (fr : List Asn), vs = [.int i, .int n] ∧ n ≤ 100 ∧ Sep fr H ∧ ∀ D H', Sep (At D (.lst ((rowB i n).map V.bl)) :: fr) H' → Q (.ref D) H'
theorem ok_law_row (T : Txt K mg A) : FnOk P w K mg base CX0 1 A.f_law_row A.fd_law_row ["at", "many"] (sp_law_row) := by
  refine T.F_law_row.ok sc_law_row (fun vs H Q E h => ?_) (fun cdv A' outer s0 H vs Q E hr h => ?_)
  · obtain ⟨i, n, fr, rfl, _⟩ := h
    rfl
  · obtain ⟨i, n, fr, rfl, hn, S, k⟩ := h
    refine ⟨_, (pss_one (ps_ret (pe_lc (own := [("k", 2)]) (g := (gName 2)) rfl sc_law_row.nd (pi_range1 (by rfl) T.n_range (pa_cons (pv 1) pa_nil)) (blkOk_by (N := ["at", "many", "k"]) (sc := defScope s_law_row) (by decide +kernel)) (fun _ _ _ _ _ => (pg_name (i := 2) sc_law_row.nd rfl (.inl rfl))) (fun _ _ _ _ _ => pts_nil) (fun _ _ _ _ _ => (pe_cmpR (op_gEq (K := K) rfl hr.units) (pv 2) (pv 0) (nomark _)))))), ?_⟩
    walk_at "v"
    have hl : (rowB i n).length = n := by unfold rowB; rw [List.length_map, List.length_range]
    refine lcR S (by omega) (by omega) (fun D k H' => Sep (At D (.lst (((rowB i n).take k).map V.bl)) :: fr) H') (fun D H' S' => S') ?_ ?_
    · intro D j H1 hj S1
      refine lc_turn ?_
      walk_at "v"
      have hg : (rowB i n)[j]? = some (decide (j = i)) := by
        unfold rowB
        rw [List.getElem?_map, List.getElem?_range (by omega)]
        rfl
      rename_i S2
      rw [take_snoc hg, List.map_append]
      have e : decide ((j : Int) = (i : Int)) = decide (j = i) := decide_eq_decide.2 (by omega)
      rw [e] at S2
      exact S2
    · intro D H1 S1
      rw [Int.toNat_natCast, List.take_of_length_le (by omega)] at S1
      exact k D H1 S1
theorem c_row {l : List Asn} {H : Hp} {i n : Nat} {Q : VK} {E : XK} (S : Sep l H) (hn : n ≤ 100) (k : ∀ D H', Sep (At D (.lst ((rowB i n).map V.bl)) :: l) H' → Q (.ref D) H') : sp_law_row [.int i, .int n] H Q E := ⟨i, n, l, rfl, hn, S, k⟩
/-! law_second -/
--hold
--needs law_first
def zsB (A : Ad) : List Addr := [A.c_NoDoor, A.c_NoBegin, A.c_NoOwner, A.c_NoRow, A.c_NoRule, A.c_NoDivisor, A.c_Waits, A.c_Refused, A.c_Over, A.c_Busy]
def sp_law_second (K : PySem.W.Frag) (A : Ad) : Sp := fun vs H Q _ => ∃ (a C : Addr) (bm : List Value) (fr : List Asn), vs = [.ref a] ∧ (∀ H', Sep fr H' → ErO H' a C) ∧ ExcC K C ∧ EcK K C bm ∧ Sep fr H ∧ ∀ D H', Sep (At D (.lst ((isB (.ref C :: bm) (zsB A)).map V.bl)) :: fr) H' → Q (.ref D) H'
theorem ok_law_second (T : Txt K mg A) : FnOk P w K mg base CX0 3 A.f_law_second A.fd_law_second ["e"] (sp_law_second K A) := by
  refine T.F_law_second.ok sc_law_second (fun vs H Q E h => ?_) (fun cdv A' outer s0 H vs Q E hr h => ?_)
  · obtain ⟨a, C, bm, fr, rfl, _⟩ := h
    rfl
  · obtain ⟨a, C, bm, fr, rfl, hE, hX, hC, S, k⟩ := h
    refine ⟨_, (pss_cons (ps_set (i := 1) sc_law_second.nd rfl (.inl rfl) (pe_lst (pa_cons (pe_callB (call_isH (K := K) rfl) (by rfl) T.n_isinstance (by decide +kernel) (pa_cons (pv 0) (pa_cons (pe_glob (v := .ref A.c_NoDoor) rfl T.vm_NoDoor rfl) pa_nil))) (pa_cons (pe_callB (call_isH (K := K) rfl) (by rfl) T.n_isinstance (by decide +kernel) (pa_cons (pv 0) (pa_cons (pe_glob (v := .ref A.c_NoBegin) rfl T.vm_NoBegin rfl) pa_nil))) (pa_cons (pe_callB (call_isH (K := K) rfl) (by rfl) T.n_isinstance (by decide +kernel) (pa_cons (pv 0) (pa_cons (pe_glob (v := .ref A.c_NoOwner) rfl T.vm_NoOwner rfl) pa_nil))) (pa_cons (pe_callB (call_isH (K := K) rfl) (by rfl) T.n_isinstance (by decide +kernel) (pa_cons (pv 0) (pa_cons (pe_glob (v := .ref A.c_NoRow) rfl T.vm_NoRow rfl) pa_nil))) pa_nil))))))
      (pss_cons (ps_set (i := 1) sc_law_second.nd rfl (.inl rfl) (pe_op op_gAdd (pv 1) (pe_lst (pa_cons (pe_callB (call_isH (K := K) rfl) (by rfl) T.n_isinstance (by decide +kernel) (pa_cons (pv 0) (pa_cons (pe_glob (v := .ref A.c_NoRule) rfl T.vm_NoRule rfl) pa_nil))) (pa_cons (pe_callB (call_isH (K := K) rfl) (by rfl) T.n_isinstance (by decide +kernel) (pa_cons (pv 0) (pa_cons (pe_glob (v := .ref A.c_NoDivisor) rfl T.vm_NoDivisor rfl) pa_nil))) (pa_cons (pe_callB (call_isH (K := K) rfl) (by rfl) T.n_isinstance (by decide +kernel) (pa_cons (pv 0) (pa_cons (pe_glob (v := .ref A.c_Waits) rfl T.vm_Waits rfl) pa_nil))) (pa_cons (pe_callB (call_isH (K := K) rfl) (by rfl) T.n_isinstance (by decide +kernel) (pa_cons (pv 0) (pa_cons (pe_glob (v := .ref A.c_Refused) rfl T.vm_Refused rfl) pa_nil))) pa_nil)))))))
      (pss_one (ps_ret (pe_op op_gAdd (pv 1) (pe_lst (pa_cons (pe_callB (call_isH (K := K) rfl) (by rfl) T.n_isinstance (by decide +kernel) (pa_cons (pv 0) (pa_cons (pe_glob (v := .ref A.c_Over) rfl T.vm_Over rfl) pa_nil))) (pa_cons (pe_callB (call_isH (K := K) rfl) (by rfl) T.n_isinstance (by decide +kernel) (pa_cons (pv 0) (pa_cons (pe_glob (v := .ref A.c_Busy) rfl T.vm_Busy rfl) pa_nil))) pa_nil)))))))), ?_⟩
    walk_at "v"
    refine c_isH (hE _ S) hX (.own _) (hC.kit T.ek_NoDoor) ?_
    walk_at "v"
    refine c_isH (hE _ S) hX (.own _) (hC.kit T.ek_NoBegin) ?_
    walk_at "v"
    refine c_isH (hE _ S) hX (.own _) (hC.kit T.ek_NoOwner) ?_
    walk_at "v"
    refine c_isH (hE _ S) hX (.own _) (hC.kit T.ek_NoRow) ?_
    walk_at "v"
    rename_i q1 Hq1 Sq1
    refine c_isH (hE _ Sq1.tail) hX (.own _) (hC.kit T.ek_NoRule) ?_
    walk_at "v"
    refine c_isH (hE _ Sq1.tail) hX (.own _) (hC.kit T.ek_NoDivisor) ?_
    walk_at "v"
    refine c_isH (hE _ Sq1.tail) hX (.own _) (hC.kit T.ek_Waits) ?_
    walk_at "v"
    refine c_isH (hE _ Sq1.tail) hX (.own _) (hC.kit T.ek_Refused) ?_
    walk_at "v"
    rename_i q2 Hq2 Sq2
    refine o_cat Sq2 (hasS has0) has0 (by rw [sizeLine_eq]; simp only [List.length_append, List.length_cons, List.length_nil]; decide) fun r2 Hr2 Sr2 => ?_
    have Sd2 := Sr2.dr1.dr1
    clear Sq2 Sr2
    walk_at "v"
    refine c_isH (hE _ Sd2.tail) hX (.own _) (hC.kit T.ek_Over) ?_
    walk_at "v"
    refine c_isH (hE _ Sd2.tail) hX (.own _) (hC.kit T.ek_Busy) ?_
    walk_at "v"
    rename_i q3 Hq3 Sq3
    refine o_cat Sq3 (hasS has0) has0 (by rw [sizeLine_eq]; simp only [List.length_append, List.length_cons, List.length_nil]; decide) fun r3 Hr3 Sr3 => ?_
    have Sd3 := Sr3.dr1.dr1
    clear Sq3 Sr3
    exact k _ _ Sd3
theorem c_second {K : PySem.W.Frag} {A : Ad} {l : List Asn} {H : Hp} {a C : Addr} {bm : List Value} {Q : VK} {E : XK} (S : Sep l H) (hE : ∀ H', Sep l H' → ErO H' a C) (hX : ExcC K C) (hC : EcK K C bm) (k : ∀ D H', Sep (At D (.lst ((isB (.ref C :: bm) (zsB A)).map V.bl)) :: l) H' → Q (.ref D) H') : sp_law_second K A [.ref a] H Q E := ⟨a, C, bm, l, rfl, hE, hX, hC, S, k⟩
/-! law -/
--hold
--needs law_first law_row law_value law_values law_second law_bases
theorem rowB_get {i n j : Nat} (h : j < n) : (rowB i n)[j]? = some (decide (j = i)) := by
  unfold rowB
  rw [List.getElem?_map, List.getElem?_range h]
  rfl
theorem ref_beq (a b : Addr) : ((Value.ref a) == (Value.ref b)) = decide (a = b) := by
  by_cases h : a = b
  · subst h; simp
  · rw [decide_eq_false h]; simpa using h
theorem isB_at {zs : List Addr} {C : Addr} {bm : List Value} {i : Nat} (hn : zs.Nodup) (hi : zs[i]? = some C) (hb : ∀ z ∈ zs, bm.contains (.ref z) = false) : isB (.ref C :: bm) zs = rowB i zs.length := by
  refine List.ext_getElem? fun j => ?_
  unfold isB
  rw [List.getElem?_map]
  by_cases hj : j < zs.length
  · rw [rowB_get hj]
    have e : zs[j]? = some zs[j] := List.getElem?_eq_getElem hj
    rw [e]
    show some ((Value.ref C :: bm).contains (.ref zs[j])) = _
    rw [List.contains_cons, ref_beq, hb _ (List.getElem_mem hj), Bool.or_false]
    congr 1
    refine decide_eq_decide.2 ⟨fun z => ?_, fun z => ?_⟩
    · exact (List.getElem?_inj hj hn).1 (by rw [e, hi, z])
    · subst z
      rw [e] at hi
      exact Option.some.inj hi
  · rw [List.getElem?_eq_none (by omega), List.getElem?_eq_none (by unfold rowB; rw [List.length_map, List.length_range]; omega)]
    rfl
theorem isB_no {zs : List Addr} {C : Addr} {bm : List Value} (hC : C ∉ zs) (hb : ∀ z ∈ zs, bm.contains (.ref z) = false) : true ∉ isB (.ref C :: bm) zs := by
  intro h
  obtain ⟨z, hz, e⟩ := List.mem_map.1 h
  rw [List.contains_cons, ref_beq, hb z hz, Bool.or_false] at e
  exact hC (of_decide_eq_true e ▸ hz)
theorem no_refs {z CE : Addr} (h : z ≠ CE) : [Value.ref CE, .type "ValueError", .type "Exception", .type "BaseException", .type "object"].contains (.ref z) = false := by
  rw [List.contains_cons, ref_beq, decide_eq_false h]
  rfl
theorem eqV_bl (a b : Bool) : eqV (.bl a) (.bl b) = (a == b) := rfl
theorem inV_bls : ∀ {bs : List Bool}, true ∉ bs → inV (.bl true) (bs.map V.bl) = false
  | [], _ => rfl
  | b :: bs, h => by
    show (eqV (.bl b) (.bl true) || inV (.bl true) (bs.map V.bl)) = false
    rw [inV_bls (fun z => h (List.mem_cons_of_mem _ z))]
    cases b
    · rfl
    · exact (h List.mem_cons_self).elim
theorem flat_bls : ∀ bs : List Bool, (bs.map V.bl).all flatV = true
  | [] => rfl
  | _ :: bs => flat_bls bs
theorem in_bls {K : PySem.W.Frag} {l : List Asn} {H : Hp} {p : Addr} {bs : List Bool} {e : Nat} {Q : VK} (S : Sep l H) (hi : l[e]? = some (At p (.lst (bs.map V.bl)))) (h : true ∉ bs) (q : Q (.bl false) H) : gIn K false (.bl true) (.ref p) H Q :=
  .inl ⟨p, _, rfl, .inl (SqL.of (S.at hi)), rfl, flat_bls bs, by
    show Q (.bl (inV (.bl true) (bs.map V.bl))) H
    rw [inV_bls h]; exact q⟩
theorem ero_er {a C : Addr} {fs : List (Str × V)} {l : List Asn} {i : Nat} (hi : l[i]? = some (Er a C fs)) : ∀ H, Sep l H → ErO H a C := fun H S => by
  obtain ⟨dx, h1, h2⟩ := er_at S hi
  exact .inl ⟨dx, fs, h1, h2⟩
theorem ero_at {a C : Addr} {l : List Asn} {i : Nat} (hi : l[i]? = some (At a (ExO (.ref C) a))) : ∀ H, Sep l H → ErO H a C := fun H S => .inr (S.at hi)
theorem at_natH {xs : List V} {i : Nat} {v : V} (h : xs[i]? = some v) : atI xs (i : Int) = some v := by
  unfold atI
  rw [ixN_in (by omega) (by have := get_lt h; omega)]
  exact h
abbrev bmV (A : Ad) : List Value := [.ref A.c_CountsheldError, .type "ValueError", .type "Exception", .type "BaseException", .type "object"]
abbrev bmL : List Value := [.type "LookupError", .type "Exception", .type "BaseException", .type "object"]
abbrev bmZ : List Value := [.type "ZeroDivisionError", .type "ArithmeticError", .type "Exception", .type "BaseException", .type "object"]
abbrev bmR : List Value := [.type "RuntimeError", .type "Exception", .type "BaseException", .type "object"]
theorem basV {A : Ad} {C : Addr} : basB A (.ref C :: bmV A) = [true, true, false, false, false] := by simp [basB]
theorem basL {A : Ad} {C : Addr} (h : A.c_CountsheldError ≠ C) : basB A (.ref C :: bmL) = [false, false, true, false, false] := by simp [basB, h]
theorem basZ {A : Ad} {C : Addr} (h : A.c_CountsheldError ≠ C) : basB A (.ref C :: bmZ) = [false, false, false, true, false] := by simp [basB, h]
theorem basR {A : Ad} {C : Addr} (h : A.c_CountsheldError ≠ C) : basB A (.ref C :: bmR) = [false, false, false, false, true] := by simp [basB, h]
def sp_law (K : PySem.W.Frag) : Sp := fun vs H Q _ => ∃ (a : Addr) (ns : List Int), vs = [.ref a] ∧ SqL K H a (ns.map V.int) ∧ ns.length ≤ 63 ∧ ∀ H', Q (.bl true) H'
theorem ok_law (T : Txt K mg A) : FnOk P w K mg base CX0 8 A.f_law A.fd_law ["script"] (sp_law K) := by
  refine T.F_law.ok sc_law (fun vs H Q E h => ?_) (fun cdv A' outer s0 H vs Q E hr h => ?_)
  · obtain ⟨a, ns, rfl, _⟩ := h
    rfl
  · obtain ⟨a, ns, rfl, hS, hz, k⟩ := h
    refine ⟨_, (pss_cons (ps_set (i := 1) sc_law.nd rfl (.inl rfl) (pe_call (ok_law_source T) (hr.mono (by decide)) rfl T.m_law_source T.k_law_source T.b_law_source .nil pass0 (pa_cons (pv 0) pa_nil)))
      (pss_cons (ps_set (i := 2) sc_law.nd rfl (.inl rfl) (pe_call (ok_law_value T) (hr.mono (by decide)) rfl T.m_law_value T.k_law_value T.b_law_value .nil pass0 (pa_cons (pv 1) pa_nil)))
      (pss_cons (ps_set (i := 3) sc_law.nd rfl (.inl rfl) (pe_call (ok_law_value T) (hr.mono (by decide)) rfl T.m_law_value T.k_law_value T.b_law_value .nil pass0 (pa_cons (pv 1) pa_nil)))
      (pss_cons (ps_set (i := 4) sc_law.nd rfl (.inl rfl) (pe_call (ok_law_value T) (hr.mono (by decide)) rfl T.m_law_value T.k_law_value T.b_law_value .nil pass0 (pa_cons (pv 1) pa_nil)))
      (pss_cons (ps_set (i := 5) sc_law.nd rfl (.inl rfl) (pe_lst (pa_cons (pe_mkH (K := K) rfl T.ek_BadWord T.oi_BadWord T.ot_BadWord (ok_BadWord___init__ (K := K) T) (hr.mono (by decide)) T.b_BadWord___init__ pass0 rfl T.vm_BadWord (pa_cons (pv 2) pa_nil)) (pa_cons (pe_mkH (K := K) rfl T.ek_BadNumber T.oi_BadNumber T.ot_BadNumber (ok_BadNumber___init__ (K := K) T) (hr.mono (by decide)) T.b_BadNumber___init__ pass0 rfl T.vm_BadNumber (pa_cons (pv 2) pa_nil)) (pa_cons (pe_mkH (K := K) rfl T.ek_BadCounts T.oi_BadCounts T.ot_BadCounts (ok_BadCounts___init__ (K := K) T) (hr.mono (by decide)) T.b_BadCounts___init__ pass0 rfl T.vm_BadCounts (pa_cons (pv 2) pa_nil)) (pa_cons (pe_mkH (K := K) rfl T.ek_BadRule T.oi_BadRule T.ot_BadRule (ok_BadRule___init__ (K := K) T) (hr.mono (by decide)) T.b_BadRule___init__ pass0 rfl T.vm_BadRule (pa_cons (pv 2) pa_nil)) (pa_cons (pe_mkH (K := K) rfl T.ek_BadRules T.oi_BadRules T.ot_BadRules (ok_BadRules___init__ (K := K) T) (hr.mono (by decide)) T.b_BadRules___init__ pass0 rfl T.vm_BadRules (pa_cons (pv 2) pa_nil)) (pa_cons (pe_mkH (K := K) rfl T.ek_BadDoor T.oi_BadDoor T.ot_BadDoor (ok_BadDoor___init__ (K := K) T) (hr.mono (by decide)) T.b_BadDoor___init__ pass0 rfl T.vm_BadDoor (pa_cons (pv 2) pa_nil)) (pa_cons (pe_mkH (K := K) rfl T.ek_Unfit T.oi_Unfit T.ot_Unfit (ok_Unfit___init__ (K := K) T) (hr.mono (by decide)) T.b_Unfit___init__ pass0 rfl T.vm_Unfit (pa_cons (pv 2) (pa_cons (pv 3) pa_nil))) pa_nil)))))))))
      (pss_cons (ps_set (i := 5) sc_law.nd rfl (.inl rfl) (pe_op op_gAdd (pv 5) (pe_lst (pa_cons (pe_mkH (K := K) rfl T.ek_BadDesk T.oi_BadDesk T.ot_BadDesk (ok_BadDesk___init__ (K := K) T) (hr.mono (by decide)) T.b_BadDesk___init__ pass0 rfl T.vm_BadDesk (pa_cons (pv 2) pa_nil)) (pa_cons (pe_mkH (K := K) rfl T.ek_BadText T.oi_BadText T.ot_BadText (ok_BadText___init__ (K := K) T) (hr.mono (by decide)) T.b_BadText___init__ pass0 rfl T.vm_BadText (pa_cons (pv 2) pa_nil)) (pa_cons (pe_mkH (K := K) rfl T.ek_NotLoose T.oi_NotLoose T.ot_NotLoose (ok_NotLoose___init__ (K := K) T) (hr.mono (by decide)) T.b_NotLoose___init__ pass0 rfl T.vm_NotLoose (pa_cons (pv 2) pa_nil)) (pa_cons (pe_mkH (K := K) rfl T.ek_Named T.oi_Named T.ot_Named (ok_Named___init__ (K := K) T) (hr.mono (by decide)) T.b_Named___init__ pass0 rfl T.vm_Named (pa_cons (pv 2) pa_nil)) (pa_cons (pe_mkH (K := K) rfl T.ek_Full T.oi_Full T.ot_Full (ok_Full___init__ (K := K) T) (hr.mono (by decide)) T.b_Full___init__ pass0 rfl T.vm_Full (pa_cons (pv 2) pa_nil)) (pa_cons (pe_mkH (K := K) rfl T.ek_NoPick T.oi_NoPick T.ot_NoPick (ok_NoPick___init__ (K := K) T) (hr.mono (by decide)) T.b_NoPick___init__ pass0 rfl T.vm_NoPick (pa_cons (pv 2) pa_nil)) (pa_cons (pe_mkH (K := K) rfl T.ek_Broken T.oi_Broken T.ot_Broken (ok_Broken___init__ (K := K) T) (hr.mono (by decide)) T.b_Broken___init__ pass0 rfl T.vm_Broken (pa_cons (pv 2) pa_nil)) pa_nil))))))))))
      (pss_cons (ps_set (i := 5) sc_law.nd rfl (.inl rfl) (pe_op op_gAdd (pv 5) (pe_lst (pa_cons (pe_mkH (K := K) rfl T.ek_BadHistory T.oi_BadHistory T.ot_BadHistory (ok_BadHistory___init__ (K := K) T) (hr.mono (by decide)) T.b_BadHistory___init__ pass0 rfl T.vm_BadHistory (pa_cons (pv 2) pa_nil)) (pa_cons (pe_mkH (K := K) rfl T.ek_BadStanding T.oi_BadStanding T.ot_BadStanding (ok_BadStanding___init__ (K := K) T) (hr.mono (by decide)) T.b_BadStanding___init__ pass0 rfl T.vm_BadStanding (pa_cons (pv 2) pa_nil)) (pa_cons (pe_mkH (K := K) rfl T.ek_BadWay T.oi_BadWay T.ot_BadWay (ok_BadWay___init__ (K := K) T) (hr.mono (by decide)) T.b_BadWay___init__ pass0 rfl T.vm_BadWay (pa_cons (pv 2) pa_nil)) (pa_cons (pe_mkH (K := K) rfl T.ek_NoWay T.oi_NoWay T.ot_NoWay (ok_NoWay___init__ (K := K) T) (hr.mono (by decide)) T.b_NoWay___init__ pass0 rfl T.vm_NoWay (pa_cons (pv 2) pa_nil)) (pa_cons (pe_exc0 PySem.F.excBase_ValueError T.xq_NotKept T.xk_NotKept rfl T.vm_NotKept) (pa_cons (pe_mkH (K := K) rfl T.ek_TooMany T.oi_TooMany T.ot_TooMany (ok_TooMany___init__ (K := K) T) (hr.mono (by decide)) T.b_TooMany___init__ pass0 rfl T.vm_TooMany (pa_cons (pv 2) pa_nil)) pa_nil)))))))))
      (pss_cons (ps_set (i := 6) sc_law.nd rfl (.inl rfl) (pe_lst (pa_cons (pe_mkH (K := K) rfl T.ek_NoDoor T.oi_NoDoor T.ot_NoDoor (ok_NoDoor___init__ (K := K) T) (hr.mono (by decide)) T.b_NoDoor___init__ pass0 rfl T.vm_NoDoor (pa_cons (pv 2) pa_nil)) (pa_cons (pe_mkH (K := K) rfl T.ek_NoBegin T.oi_NoBegin T.ot_NoBegin (ok_NoBegin___init__ (K := K) T) (hr.mono (by decide)) T.b_NoBegin___init__ pass0 rfl T.vm_NoBegin (pa_cons (pv 2) pa_nil)) (pa_cons (pe_mkH (K := K) rfl T.ek_NoOwner T.oi_NoOwner T.ot_NoOwner (ok_NoOwner___init__ (K := K) T) (hr.mono (by decide)) T.b_NoOwner___init__ pass0 rfl T.vm_NoOwner (pa_cons (pv 2) pa_nil)) (pa_cons (pe_mkH (K := K) rfl T.ek_NoRow T.oi_NoRow T.ot_NoRow (ok_NoRow___init__ (K := K) T) (hr.mono (by decide)) T.b_NoRow___init__ pass0 rfl T.vm_NoRow (pa_cons (pv 2) pa_nil)) (pa_cons (pe_mkH (K := K) rfl T.ek_NoRule T.oi_NoRule T.ot_NoRule (ok_NoRule___init__ (K := K) T) (hr.mono (by decide)) T.b_NoRule___init__ pass0 rfl T.vm_NoRule (pa_cons (pv 2) pa_nil)) (pa_cons (pe_mkH (K := K) rfl T.ek_NoDivisor T.oi_NoDivisor T.ot_NoDivisor (ok_NoDivisor___init__ (K := K) T) (hr.mono (by decide)) T.b_NoDivisor___init__ pass0 rfl T.vm_NoDivisor (pa_cons (pv 2) pa_nil)) (pa_cons (pe_mkH (K := K) rfl T.ek_Waits T.oi_Waits T.ot_Waits (ok_Waits___init__ (K := K) T) (hr.mono (by decide)) T.b_Waits___init__ pass0 rfl T.vm_Waits (pa_cons (pv 2) pa_nil)) pa_nil)))))))))
      (pss_cons (ps_set (i := 6) sc_law.nd rfl (.inl rfl) (pe_op op_gAdd (pv 6) (pe_lst (pa_cons (pe_mkH (K := K) rfl T.ek_Refused T.oi_Refused T.ot_Refused (ok_Refused___init__ (K := K) T) (hr.mono (by decide)) T.b_Refused___init__ pass0 rfl T.vm_Refused (pa_cons (pv 2) (pa_cons (pv 3) (pa_cons (pv 4) pa_nil)))) (pa_cons (pe_mkH (K := K) rfl T.ek_Over T.oi_Over T.ot_Over (ok_Over___init__ (K := K) T) (hr.mono (by decide)) T.b_Over___init__ pass0 rfl T.vm_Over (pa_cons (pv 2) pa_nil)) (pa_cons (pe_mkH (K := K) rfl T.ek_Busy T.oi_Busy T.ot_Busy (ok_Busy___init__ (K := K) T) (hr.mono (by decide)) T.b_Busy___init__ pass0 rfl T.vm_Busy (pa_cons (pv 2) pa_nil)) pa_nil))))))
      (pss_cons (ps_for PassesOwn.never rfl (pi_range1 (by rfl) T.n_range (pa_cons pe_int pa_nil)) (pg_name (i := 7) sc_law.nd rfl (.inl rfl)) (pss_cons (ps_if (PW.pt (pw_or (pt_cmpR (op_gNe (K := K) rfl hr.units) (pe_call (ok_law_first T) (hr.mono (by decide)) rfl T.m_law_first T.k_law_first T.b_law_first .nil pass0 (pa_cons (pe_ix (ix_g (K := K) rfl) (pv 5) (pv 7) (fun _ _ => rfl)) pa_nil)) (pe_call (ok_law_row T) (hr.mono (by decide)) rfl T.m_law_row T.k_law_row T.b_law_row .nil pass0 (pa_cons (pv 7) (pa_cons pe_int pa_nil))) (nomark _)) (pw_or1 (pt_cmpR (op_gIn (K := K) rfl) pe_bl (pe_call (ok_law_second T) (hr.mono (by decide)) rfl T.m_law_second T.k_law_second T.b_law_second .nil pass0 (pa_cons (pe_ix (ix_g (K := K) rfl) (pv 5) (pv 7) (fun _ _ => rfl)) pa_nil)) (by rfl))))) (pss_one (ps_ret pe_bl)) pss_nil)
      (pss_one (ps_if (pt_cmpR (op_gNe (K := K) rfl hr.units) (pe_call (ok_law_bases T) (hr.mono (by decide)) rfl T.m_law_bases T.k_law_bases T.b_law_bases .nil pass0 (pa_cons (pe_ix (ix_g (K := K) rfl) (pv 5) (pv 7) (fun _ _ => rfl)) pa_nil)) (pe_lst (pa_cons pe_bl (pa_cons pe_bl (pa_cons pe_bl (pa_cons pe_bl (pa_cons pe_bl pa_nil)))))) (nomark _)) (pss_one (ps_ret pe_bl)) pss_nil))))
      (pss_cons (ps_for PassesOwn.never rfl (pi_range1 (by rfl) T.n_range (pa_cons pe_int pa_nil)) (pg_name (i := 7) sc_law.nd rfl (.inl rfl)) (pss_cons (ps_if (PW.pt (pw_or (pt_cmpR (op_gNe (K := K) rfl hr.units) (pe_call (ok_law_second T) (hr.mono (by decide)) rfl T.m_law_second T.k_law_second T.b_law_second .nil pass0 (pa_cons (pe_ix (ix_g (K := K) rfl) (pv 6) (pv 7) (fun _ _ => rfl)) pa_nil)) (pe_call (ok_law_row T) (hr.mono (by decide)) rfl T.m_law_row T.k_law_row T.b_law_row .nil pass0 (pa_cons (pv 7) (pa_cons pe_int pa_nil))) (nomark _)) (pw_or1 (pt_cmpR (op_gIn (K := K) rfl) pe_bl (pe_call (ok_law_first T) (hr.mono (by decide)) rfl T.m_law_first T.k_law_first T.b_law_first .nil pass0 (pa_cons (pe_ix (ix_g (K := K) rfl) (pv 6) (pv 7) (fun _ _ => rfl)) pa_nil)) (by rfl))))) (pss_one (ps_ret pe_bl)) pss_nil)
      (pss_one (ps_if (pt_cmpR (op_gNe (K := K) rfl hr.units) (pe_call (ok_law_bases T) (hr.mono (by decide)) rfl T.m_law_bases T.k_law_bases T.b_law_bases .nil pass0 (pa_cons (pe_ix (ix_g (K := K) rfl) (pv 6) (pv 7) (fun _ _ => rfl)) pa_nil)) (pe_lst (pa_cons pe_bl (pa_cons pe_bl (pa_cons (pe_cmpR op_gLt (pv 7) pe_int (nomark _)) (pa_cons (pe_cmpR (op_gEq (K := K) rfl hr.units) (pv 7) pe_int (nomark _)) (pa_cons (pe_cmpR op_gGt (pv 7) pe_int (nomark _)) pa_nil)))))) (nomark _)) (pss_one (ps_ret pe_bl)) pss_nil))))
      (pss_one (ps_ret (pe_call (ok_law_values T) (hr.mono (by decide)) rfl T.m_law_values T.k_law_values T.b_law_values .nil pass0 (pa_cons (pv 2) (pa_cons (pv 3) (pa_cons (pv 4) pa_nil))))))))))))))))), ?_⟩
    walk_at "v"
    refine ⟨a, ns, [], rfl, hS, hz, Sep.nil, fun s H1 S1 => ?_⟩
    walk_at "v"
    refine c_value S1 (i := 0) rfl fun x f1 H2 hx hb1 hj1 S2 => ?_
    obtain ⟨j1, hj1⟩ := hj1
    walk_at "v"
    refine c_value S2 hj1 fun y f2 H3 hy hb2 hj2 S3 => ?_
    obtain ⟨j2, hj2⟩ := hj2
    walk_at "v"
    refine c_value S3 hj2 fun z fr H4 hz' hb3 _ S4 => ?_
    have hx3 : VkF K fr x := (hx.sub hb2).sub hb3
    have hy3 : VkF K fr y := hy.sub hb3
    clear S1 S2 S3 hx hy
    walk_at "v"
    refine mkH1 S4 T.ox_BadWord T.xn_BadWord_word fun aBadWord HH1 SS1 => ?_
    walk_at "v"
    refine mkH1 SS1 T.ox_BadNumber T.xn_BadNumber_number fun aBadNumber HH2 SS2 => ?_
    clear SS1
    walk_at "v"
    refine mkH1 SS2 T.ox_BadCounts T.xn_BadCounts_at fun aBadCounts HH3 SS3 => ?_
    clear SS2
    walk_at "v"
    refine mkH1 SS3 T.ox_BadRule T.xn_BadRule_what fun aBadRule HH4 SS4 => ?_
    clear SS3
    walk_at "v"
    refine mkH1 SS4 T.ox_BadRules T.xn_BadRules_what fun aBadRules HH5 SS5 => ?_
    clear SS4
    walk_at "v"
    refine mkH1 SS5 T.ox_BadDoor T.xn_BadDoor_at fun aBadDoor HH6 SS6 => ?_
    clear SS5
    walk_at "v"
    refine mkH2 SS6 T.ox_Unfit T.xn_Unfit_door T.xn_Unfit_line fun aUnfit HH7 SS7 => ?_
    clear SS6
    walk_at "v"
    rename_i pF0 Hp8 Sp8
    refine mkH1 Sp8 T.ox_BadDesk T.xn_BadDesk_what fun aBadDesk HH9 SS9 => ?_
    clear Sp8
    walk_at "v"
    refine mkH1 SS9 T.ox_BadText T.xn_BadText_at fun aBadText HH10 SS10 => ?_
    clear SS9
    walk_at "v"
    refine mkH1 SS10 T.ox_NotLoose T.xn_NotLoose_kind fun aNotLoose HH11 SS11 => ?_
    clear SS10
    walk_at "v"
    refine mkH1 SS11 T.ox_Named T.xn_Named_row fun aNamed HH12 SS12 => ?_
    clear SS11
    walk_at "v"
    refine mkH1 SS12 T.ox_Full T.xn_Full_owner fun aFull HH13 SS13 => ?_
    clear SS12
    walk_at "v"
    refine mkH1 SS13 T.ox_NoPick T.xn_NoPick_pick fun aNoPick HH14 SS14 => ?_
    clear SS13
    walk_at "v"
    refine mkH1 SS14 T.ox_Broken T.xn_Broken_rules fun aBroken HH15 SS15 => ?_
    clear SS14
    walk_at "v"
    rename_i pF1 Hp16 Sp16
    refine o_cat Sp16 (e := 8) (e' := 0) rfl rfl (by rw [sizeLine_eq]; simp only [List.length_append, List.length_cons, List.length_nil]; decide) fun qF1 Hq16 Sq16 => ?_
    have Sd16 := Sq16.drops [1, 8]
    simp only [Y.drops, List.eraseIdx] at Sd16
    clear Sp16 Sq16
    walk_at "v"
    refine mkH1 Sd16 T.ox_BadHistory T.xn_BadHistory_at fun aBadHistory HH17 SS17 => ?_
    clear Sd16
    walk_at "v"
    refine mkH1 SS17 T.ox_BadStanding T.xn_BadStanding_standing fun aBadStanding HH18 SS18 => ?_
    clear SS17
    walk_at "v"
    refine mkH1 SS18 T.ox_BadWay T.xn_BadWay_at fun aBadWay HH19 SS19 => ?_
    clear SS18
    walk_at "v"
    refine mkH1 SS19 T.ox_NoWay T.xn_NoWay_standing fun aNoWay HH20 SS20 => ?_
    clear SS19
    walk_at "v"
    rename_i aNotKept HH21 SS21
    refine mkH1 SS21 T.ox_TooMany T.xn_TooMany_what fun aTooMany HH22 SS22 => ?_
    clear SS21
    walk_at "v"
    rename_i pF2 Hp23 Sp23
    refine o_cat Sp23 (e := 7) (e' := 0) rfl rfl (by rw [sizeLine_eq]; simp only [List.length_append, List.length_cons, List.length_nil]; decide) fun qF2 Hq23 Sq23 => ?_
    have Sd23 := Sq23.drops [1, 7]
    simp only [Y.drops, List.eraseIdx] at Sd23
    clear Sp23 Sq23
    walk_at "v"
    refine mkH1b Sd23 T.ob_NoDoor T.xn_NoDoor_name fun aNoDoor HH24 SS24 => ?_
    clear Sd23
    walk_at "v"
    refine mkH1b SS24 T.ob_NoBegin T.xn_NoBegin_index fun aNoBegin HH25 SS25 => ?_
    clear SS24
    walk_at "v"
    refine mkH1b SS25 T.ob_NoOwner T.xn_NoOwner_owner fun aNoOwner HH26 SS26 => ?_
    clear SS25
    walk_at "v"
    refine mkH1b SS26 T.ob_NoRow T.xn_NoRow_row fun aNoRow HH27 SS27 => ?_
    clear SS26
    walk_at "v"
    refine mkH1b SS27 T.ob_NoRule T.xn_NoRule_rule fun aNoRule HH28 SS28 => ?_
    clear SS27
    walk_at "v"
    refine mkH1b SS28 T.ob_NoDivisor T.xn_NoDivisor_word fun aNoDivisor HH29 SS29 => ?_
    clear SS28
    walk_at "v"
    refine mkH1b SS29 T.ob_Waits T.xn_Waits_owner fun aWaits HH30 SS30 => ?_
    clear SS29
    walk_at "v"
    rename_i pG0 Hp31 Sp31
    refine mkH3b Sp31 T.ob_Refused T.xn_Refused_door T.xn_Refused_line T.xn_Refused_why fun aRefused HH32 SS32 => ?_
    clear Sp31
    walk_at "v"
    refine mkH1b SS32 T.ob_Over T.xn_Over_number fun aOver HH33 SS33 => ?_
    clear SS32
    walk_at "v"
    refine mkH1b SS33 T.ob_Busy T.xn_Busy_owner fun aBusy HH34 SS34 => ?_
    clear SS33
    walk_at "v"
    rename_i pG1 Hp35 Sp35
    refine o_cat Sp35 (e := 4) (e' := 0) rfl rfl (by rw [sizeLine_eq]; simp only [List.length_append, List.length_cons, List.length_nil]; decide) fun qG1 Hq35 Sq35 => ?_
    have Sd35 := Sq35.drops [1, 4]
    simp only [Y.drops, List.eraseIdx] at Sd35
    clear Sp35 Sq35
    obtain ⟨FR, hFR, S9⟩ := Sd35.keep
    clear Sd35
    have hdrop : ∀ H, Sep FR H → Sep fr H := fun H S => by
      rw [hFR] at S
      exact S.dropN 32
    have hx4 := hx3.sub hdrop
    have hy4 := hy3.sub hdrop
    have hz4 := hz'.sub hdrop
    have nd : (A.c_CountsheldError :: (zsA A ++ zsB A)).Nodup := T.cnd
    have nCE := (List.nodup_cons.1 nd).1
    have nAB := List.nodup_append.1 (List.nodup_cons.1 nd).2
    have neA : ∀ z ∈ zsA A, z ≠ A.c_CountsheldError := fun z hz e => nCE (List.mem_append_left _ (e ▸ hz))
    have neB : ∀ z ∈ zsB A, z ≠ A.c_CountsheldError := fun z hz e => nCE (List.mem_append_right _ (e ▸ hz))
    have vA : ∀ z ∈ zsA A, (bmV A).contains (.ref z) = false := fun z hz => no_refs (neA z hz)
    have vB : ∀ z ∈ zsB A, (bmV A).contains (.ref z) = false := fun z hz => no_refs (neB z hz)
    have dA : ∀ z ∈ zsA A, z ∉ zsB A := fun z hz h => nAB.2.2 z hz z h rfl
    have dB : ∀ z ∈ zsB A, z ∉ zsA A := fun z hz h => nAB.2.2 z h z hz rfl
    have hLF : FR[11]? = some (At qF2 (.lst [V.ref aBadWord, V.ref aBadNumber, V.ref aBadCounts, V.ref aBadRule, V.ref aBadRules, V.ref aBadDoor, V.ref aUnfit, V.ref aBadDesk, V.ref aBadText, V.ref aNotLoose, V.ref aNamed, V.ref aFull, V.ref aNoPick, V.ref aBroken, V.ref aBadHistory, V.ref aBadStanding, V.ref aBadWay, V.ref aNoWay, V.ref aNotKept, V.ref aTooMany])) := by rw [hFR]; rfl
    have hLG : FR[0]? = some (At qG1 (.lst [V.ref aNoDoor, V.ref aNoBegin, V.ref aNoOwner, V.ref aNoRow, V.ref aNoRule, V.ref aNoDivisor, V.ref aWaits, V.ref aRefused, V.ref aOver, V.ref aBusy])) := by rw [hFR]; rfl
    have gA : ∀ i : Nat, i < 20 → ∃ C, (zsA A)[i]? = some C ∧ C ∈ zsA A := fun i h => ⟨(zsA A)[i], List.getElem?_eq_getElem h, List.getElem_mem h⟩
    have rows1 : ∀ i : Nat, i < 20 → ∃ (q C : Addr), ([V.ref aBadWord, V.ref aBadNumber, V.ref aBadCounts, V.ref aBadRule, V.ref aBadRules, V.ref aBadDoor, V.ref aUnfit, V.ref aBadDesk, V.ref aBadText, V.ref aNotLoose, V.ref aNamed, V.ref aFull, V.ref aNoPick, V.ref aBroken, V.ref aBadHistory, V.ref aBadStanding, V.ref aBadWay, V.ref aNoWay, V.ref aNotKept, V.ref aTooMany] : List V)[i]? = some (.ref q) ∧ (zsA A)[i]? = some C ∧ (∀ H, Sep FR H → ErO H q C) ∧ ExcC K C ∧ EcK K C (bmV A) := by
      intro i hi
      have h20 : i = 0 ∨ i = 1 ∨ i = 2 ∨ i = 3 ∨ i = 4 ∨ i = 5 ∨ i = 6 ∨ i = 7 ∨ i = 8 ∨ i = 9 ∨ i = 10 ∨ i = 11 ∨ i = 12 ∨ i = 13 ∨ i = 14 ∨ i = 15 ∨ i = 16 ∨ i = 17 ∨ i = 18 ∨ i = 19 := by omega
      rw [hFR]
      rcases h20 with rfl | rfl | rfl | rfl | rfl | rfl | rfl | rfl | rfl | rfl | rfl | rfl | rfl | rfl | rfl | rfl | rfl | rfl | rfl | rfl
      · exact ⟨aBadWord, A.c_BadWord, rfl, rfl, ero_er (i := 31) rfl, T.xc_BadWord, T.ek_BadWord⟩
      · exact ⟨aBadNumber, A.c_BadNumber, rfl, rfl, ero_er (i := 30) rfl, T.xc_BadNumber, T.ek_BadNumber⟩
      · exact ⟨aBadCounts, A.c_BadCounts, rfl, rfl, ero_er (i := 29) rfl, T.xc_BadCounts, T.ek_BadCounts⟩
      · exact ⟨aBadRule, A.c_BadRule, rfl, rfl, ero_er (i := 28) rfl, T.xc_BadRule, T.ek_BadRule⟩
      · exact ⟨aBadRules, A.c_BadRules, rfl, rfl, ero_er (i := 27) rfl, T.xc_BadRules, T.ek_BadRules⟩
      · exact ⟨aBadDoor, A.c_BadDoor, rfl, rfl, ero_er (i := 26) rfl, T.xc_BadDoor, T.ek_BadDoor⟩
      · exact ⟨aUnfit, A.c_Unfit, rfl, rfl, ero_er (i := 25) rfl, T.xc_Unfit, T.ek_Unfit⟩
      · exact ⟨aBadDesk, A.c_BadDesk, rfl, rfl, ero_er (i := 24) rfl, T.xc_BadDesk, T.ek_BadDesk⟩
      · exact ⟨aBadText, A.c_BadText, rfl, rfl, ero_er (i := 23) rfl, T.xc_BadText, T.ek_BadText⟩
      · exact ⟨aNotLoose, A.c_NotLoose, rfl, rfl, ero_er (i := 22) rfl, T.xc_NotLoose, T.ek_NotLoose⟩
      · exact ⟨aNamed, A.c_Named, rfl, rfl, ero_er (i := 21) rfl, T.xc_Named, T.ek_Named⟩
      · exact ⟨aFull, A.c_Full, rfl, rfl, ero_er (i := 20) rfl, T.xc_Full, T.ek_Full⟩
      · exact ⟨aNoPick, A.c_NoPick, rfl, rfl, ero_er (i := 19) rfl, T.xc_NoPick, T.ek_NoPick⟩
      · exact ⟨aBroken, A.c_Broken, rfl, rfl, ero_er (i := 18) rfl, T.xc_Broken, T.ek_Broken⟩
      · exact ⟨aBadHistory, A.c_BadHistory, rfl, rfl, ero_er (i := 17) rfl, T.xc_BadHistory, T.ek_BadHistory⟩
      · exact ⟨aBadStanding, A.c_BadStanding, rfl, rfl, ero_er (i := 16) rfl, T.xc_BadStanding, T.ek_BadStanding⟩
      · exact ⟨aBadWay, A.c_BadWay, rfl, rfl, ero_er (i := 15) rfl, T.xc_BadWay, T.ek_BadWay⟩
      · exact ⟨aNoWay, A.c_NoWay, rfl, rfl, ero_er (i := 14) rfl, T.xc_NoWay, T.ek_NoWay⟩
      · exact ⟨aNotKept, A.c_NotKept, rfl, rfl, ero_at (i := 13) rfl, T.xc_NotKept, T.ek_NotKept⟩
      · exact ⟨aTooMany, A.c_TooMany, rfl, rfl, ero_er (i := 12) rfl, T.xc_TooMany, T.ek_TooMany⟩
    have rows2 : ∀ i : Nat, i < 10 → ∃ (q C : Addr) (bm : List Value), ([V.ref aNoDoor, V.ref aNoBegin, V.ref aNoOwner, V.ref aNoRow, V.ref aNoRule, V.ref aNoDivisor, V.ref aWaits, V.ref aRefused, V.ref aOver, V.ref aBusy] : List V)[i]? = some (.ref q) ∧ (zsB A)[i]? = some C ∧ (∀ H, Sep FR H → ErO H q C) ∧ ExcC K C ∧ EcK K C bm ∧ (∀ z : Addr, bm.contains (.ref z) = false) ∧ (A.c_CountsheldError ≠ C → basB A (.ref C :: bm) = [false, false, decide ((i : Int) < 5), decide ((i : Int) = 5), decide ((i : Int) > 5)]) := by
      intro i hi
      have h10 : i = 0 ∨ i = 1 ∨ i = 2 ∨ i = 3 ∨ i = 4 ∨ i = 5 ∨ i = 6 ∨ i = 7 ∨ i = 8 ∨ i = 9 := by omega
      rw [hFR]
      rcases h10 with rfl | rfl | rfl | rfl | rfl | rfl | rfl | rfl | rfl | rfl
      · exact ⟨aNoDoor, A.c_NoDoor, bmL, rfl, rfl, ero_er (i := 10) rfl, T.xc_NoDoor, T.ek_NoDoor, fun z => rfl, fun h => basL h⟩
      · exact ⟨aNoBegin, A.c_NoBegin, bmL, rfl, rfl, ero_er (i := 9) rfl, T.xc_NoBegin, T.ek_NoBegin, fun z => rfl, fun h => basL h⟩
      · exact ⟨aNoOwner, A.c_NoOwner, bmL, rfl, rfl, ero_er (i := 8) rfl, T.xc_NoOwner, T.ek_NoOwner, fun z => rfl, fun h => basL h⟩
      · exact ⟨aNoRow, A.c_NoRow, bmL, rfl, rfl, ero_er (i := 7) rfl, T.xc_NoRow, T.ek_NoRow, fun z => rfl, fun h => basL h⟩
      · exact ⟨aNoRule, A.c_NoRule, bmL, rfl, rfl, ero_er (i := 6) rfl, T.xc_NoRule, T.ek_NoRule, fun z => rfl, fun h => basL h⟩
      · exact ⟨aNoDivisor, A.c_NoDivisor, bmZ, rfl, rfl, ero_er (i := 5) rfl, T.xc_NoDivisor, T.ek_NoDivisor, fun z => rfl, fun h => basZ h⟩
      · exact ⟨aWaits, A.c_Waits, bmR, rfl, rfl, ero_er (i := 4) rfl, T.xc_Waits, T.ek_Waits, fun z => rfl, fun h => basR h⟩
      · exact ⟨aRefused, A.c_Refused, bmR, rfl, rfl, ero_er (i := 3) rfl, T.xc_Refused, T.ek_Refused, fun z => rfl, fun h => basR h⟩
      · exact ⟨aOver, A.c_Over, bmR, rfl, rfl, ero_er (i := 2) rfl, T.xc_Over, T.ek_Over, fun z => rfl, fun h => basR h⟩
      · exact ⟨aBusy, A.c_Busy, bmR, rfl, rfl, ero_er (i := 1) rfl, T.xc_Busy, T.ek_Busy, fun z => rfl, fun h => basR h⟩
    clear hFR
    have S10 := S9
    clear S9
    walk_at "v"
    refine forR (by omega) (by omega) (fun i σ H => ∃ e, σ = [some (.ref a), some (.ref s), some x, some y, some z, some (.ref qF2), some (.ref qG1), e] ∧ Sep FR H) ⟨_, rfl, S10⟩ ?_ ?_
    · rintro i σ H9 hi ⟨e, rfl, S9⟩
      clear S10
      obtain ⟨q, C, hq, hC, hE, hX, hK⟩ := rows1 i (by omega)
      have hm := List.mem_of_getElem? hC
      walk_at "v"
      refine x_lst S9 hLF (at_natH hq) ?_
      walk_at "v"
      refine c_first S9 hE hX hK fun d1 H11 S11 => ?_
      walk_at "v"
      refine c_row (n := 20) S11 (by decide) fun d2 H12 S12 => ?_
      refine ne_bls S12 (hasS has0) has0 ?_
      rw [isB_at nAB.1 hC vA, show (zsA A).length = 20 from rfl, decide_eq_true rfl]
      have S13 := S12.tail.tail
      clear S9 S11 S12
      walk_at "v"
      refine x_lst S13 hLF (at_natH hq) ?_
      walk_at "v"
      refine c_second S13 hE hX hK fun d3 H14 S14 => ?_
      refine in_bls S14 has0 (isB_no (dA C hm) vB) ?_
      have S15 := S14.tail
      clear S13 S14
      walk_at "v"
      refine x_lst S15 hLF (at_natH hq) ?_
      walk_at "v"
      refine c_bases S15 hE hX hK fun d4 H16 S16 => ?_
      clear S15
      walk_at "v"
      rename_i d5 H17 S17
      refine ne_bls (cs := [true, true, false, false, false]) S17 (hasS has0) has0 ?_
      rw [basV, decide_eq_true rfl]
      have S18 := S17.tail.tail
      clear S16 S17
      walk_at "v"
      exact ⟨_, rfl, S18⟩
    clear S10
    rintro σ H9 ⟨e, rfl, S10⟩
    walk_at "v"
    refine forR (by omega) (by omega) (fun i σ H => ∃ e, σ = [some (.ref a), some (.ref s), some x, some y, some z, some (.ref qF2), some (.ref qG1), e] ∧ Sep FR H) ⟨_, rfl, S10⟩ ?_ ?_
    · rintro i σ H9 hi ⟨e, rfl, S9⟩
      clear S10
      obtain ⟨q, C, bm, hq, hC, hE, hX, hK, hbm, hbs⟩ := rows2 i (by omega)
      have hm := List.mem_of_getElem? hC
      walk_at "v"
      refine x_lst S9 hLG (at_natH hq) ?_
      walk_at "v"
      refine c_second S9 hE hX hK fun d1 H11 S11 => ?_
      walk_at "v"
      refine c_row (n := 10) S11 (by decide) fun d2 H12 S12 => ?_
      refine ne_bls S12 (hasS has0) has0 ?_
      rw [isB_at nAB.2.1 hC (fun z _ => hbm z), show (zsB A).length = 10 from rfl, decide_eq_true rfl]
      have S13 := S12.tail.tail
      clear S9 S11 S12
      walk_at "v"
      refine x_lst S13 hLG (at_natH hq) ?_
      walk_at "v"
      refine c_first S13 hE hX hK fun d3 H14 S14 => ?_
      refine in_bls S14 has0 (isB_no (dB C hm) (fun z _ => hbm z)) ?_
      have S15 := S14.tail
      clear S13 S14
      walk_at "v"
      refine x_lst S15 hLG (at_natH hq) ?_
      walk_at "v"
      refine c_bases S15 hE hX hK fun d4 H16 S16 => ?_
      clear S15
      walk_at "v"
      rename_i d5 H17 S17
      refine ne_bls (cs := [false, false, decide ((i : Int) < 5), decide ((i : Int) = 5), decide ((i : Int) > 5)]) S17 (hasS has0) has0 ?_
      rw [hbs (Ne.symm (neB C hm)), decide_eq_true rfl]
      have S18 := S17.tail.tail
      clear S16 S17
      walk_at "v"
      exact ⟨_, rfl, S18⟩
    clear S10
    rintro σ H9 ⟨e, rfl, S10⟩
    walk_at "v"
    exact c_values S10 hx4 hy4 hz4 fun H' => k H'
end
theorem all_mk {l : PySem.W.OpenLaw} {w : World} {K : PySem.W.Frag} {h : Heap} {mg : Str → Option Value} {fa : Addr} (X : K.In h) (G : h.Ns mainGlobals mg) (hfa : mg "law" = some (.ref fa))
  {f_law_source : Addr} {oc_law_source kV_law_source dc_law_source pm_law_source cd_law_source ct_law_source : Value} {od_law_source an_law_source : Option Addr} {sl_law_source : Array (Option Value)}
  {f_law_mixed : Addr} {oc_law_mixed kV_law_mixed dc_law_mixed pm_law_mixed cd_law_mixed ct_law_mixed : Value} {od_law_mixed an_law_mixed : Option Addr} {sl_law_mixed : Array (Option Value)}
  {f_law_draw : Addr} {oc_law_draw kV_law_draw dc_law_draw pm_law_draw cd_law_draw ct_law_draw : Value} {od_law_draw an_law_draw : Option Addr} {sl_law_draw : Array (Option Value)}
  {f_law_number : Addr} {oc_law_number kV_law_number dc_law_number pm_law_number cd_law_number ct_law_number : Value} {od_law_number an_law_number : Option Addr} {sl_law_number : Array (Option Value)}
  {f_law_word : Addr} {oc_law_word kV_law_word dc_law_word pm_law_word cd_law_word ct_law_word : Value} {od_law_word an_law_word : Option Addr} {sl_law_word : Array (Option Value)}
  {f_law_value : Addr} {oc_law_value kV_law_value dc_law_value pm_law_value cd_law_value ct_law_value : Value} {od_law_value an_law_value : Option Addr} {sl_law_value : Array (Option Value)}
  {f_Unfit___init__ : Addr} {oc_Unfit___init__ kV_Unfit___init__ dc_Unfit___init__ pm_Unfit___init__ cd_Unfit___init__ ct_Unfit___init__ : Value} {od_Unfit___init__ an_Unfit___init__ : Option Addr} {sl_Unfit___init__ : Array (Option Value)}
  {f_Refused___init__ : Addr} {oc_Refused___init__ kV_Refused___init__ dc_Refused___init__ pm_Refused___init__ cd_Refused___init__ ct_Refused___init__ : Value} {od_Refused___init__ an_Refused___init__ : Option Addr} {sl_Refused___init__ : Array (Option Value)}
  {f_BadWord___init__ : Addr} {oc_BadWord___init__ kV_BadWord___init__ dc_BadWord___init__ pm_BadWord___init__ cd_BadWord___init__ ct_BadWord___init__ : Value} {od_BadWord___init__ an_BadWord___init__ : Option Addr} {sl_BadWord___init__ : Array (Option Value)}
  {f_BadNumber___init__ : Addr} {oc_BadNumber___init__ kV_BadNumber___init__ dc_BadNumber___init__ pm_BadNumber___init__ cd_BadNumber___init__ ct_BadNumber___init__ : Value} {od_BadNumber___init__ an_BadNumber___init__ : Option Addr} {sl_BadNumber___init__ : Array (Option Value)}
  {f_BadCounts___init__ : Addr} {oc_BadCounts___init__ kV_BadCounts___init__ dc_BadCounts___init__ pm_BadCounts___init__ cd_BadCounts___init__ ct_BadCounts___init__ : Value} {od_BadCounts___init__ an_BadCounts___init__ : Option Addr} {sl_BadCounts___init__ : Array (Option Value)}
  {f_BadRule___init__ : Addr} {oc_BadRule___init__ kV_BadRule___init__ dc_BadRule___init__ pm_BadRule___init__ cd_BadRule___init__ ct_BadRule___init__ : Value} {od_BadRule___init__ an_BadRule___init__ : Option Addr} {sl_BadRule___init__ : Array (Option Value)}
  {f_BadRules___init__ : Addr} {oc_BadRules___init__ kV_BadRules___init__ dc_BadRules___init__ pm_BadRules___init__ cd_BadRules___init__ ct_BadRules___init__ : Value} {od_BadRules___init__ an_BadRules___init__ : Option Addr} {sl_BadRules___init__ : Array (Option Value)}
  {f_BadDoor___init__ : Addr} {oc_BadDoor___init__ kV_BadDoor___init__ dc_BadDoor___init__ pm_BadDoor___init__ cd_BadDoor___init__ ct_BadDoor___init__ : Value} {od_BadDoor___init__ an_BadDoor___init__ : Option Addr} {sl_BadDoor___init__ : Array (Option Value)}
  {f_BadDesk___init__ : Addr} {oc_BadDesk___init__ kV_BadDesk___init__ dc_BadDesk___init__ pm_BadDesk___init__ cd_BadDesk___init__ ct_BadDesk___init__ : Value} {od_BadDesk___init__ an_BadDesk___init__ : Option Addr} {sl_BadDesk___init__ : Array (Option Value)}
  {f_BadText___init__ : Addr} {oc_BadText___init__ kV_BadText___init__ dc_BadText___init__ pm_BadText___init__ cd_BadText___init__ ct_BadText___init__ : Value} {od_BadText___init__ an_BadText___init__ : Option Addr} {sl_BadText___init__ : Array (Option Value)}
  {f_NotLoose___init__ : Addr} {oc_NotLoose___init__ kV_NotLoose___init__ dc_NotLoose___init__ pm_NotLoose___init__ cd_NotLoose___init__ ct_NotLoose___init__ : Value} {od_NotLoose___init__ an_NotLoose___init__ : Option Addr} {sl_NotLoose___init__ : Array (Option Value)}
  {f_Named___init__ : Addr} {oc_Named___init__ kV_Named___init__ dc_Named___init__ pm_Named___init__ cd_Named___init__ ct_Named___init__ : Value} {od_Named___init__ an_Named___init__ : Option Addr} {sl_Named___init__ : Array (Option Value)}
  {f_Full___init__ : Addr} {oc_Full___init__ kV_Full___init__ dc_Full___init__ pm_Full___init__ cd_Full___init__ ct_Full___init__ : Value} {od_Full___init__ an_Full___init__ : Option Addr} {sl_Full___init__ : Array (Option Value)}
  {f_NoPick___init__ : Addr} {oc_NoPick___init__ kV_NoPick___init__ dc_NoPick___init__ pm_NoPick___init__ cd_NoPick___init__ ct_NoPick___init__ : Value} {od_NoPick___init__ an_NoPick___init__ : Option Addr} {sl_NoPick___init__ : Array (Option Value)}
  {f_Broken___init__ : Addr} {oc_Broken___init__ kV_Broken___init__ dc_Broken___init__ pm_Broken___init__ cd_Broken___init__ ct_Broken___init__ : Value} {od_Broken___init__ an_Broken___init__ : Option Addr} {sl_Broken___init__ : Array (Option Value)}
  {f_BadHistory___init__ : Addr} {oc_BadHistory___init__ kV_BadHistory___init__ dc_BadHistory___init__ pm_BadHistory___init__ cd_BadHistory___init__ ct_BadHistory___init__ : Value} {od_BadHistory___init__ an_BadHistory___init__ : Option Addr} {sl_BadHistory___init__ : Array (Option Value)}
  {f_BadStanding___init__ : Addr} {oc_BadStanding___init__ kV_BadStanding___init__ dc_BadStanding___init__ pm_BadStanding___init__ cd_BadStanding___init__ ct_BadStanding___init__ : Value} {od_BadStanding___init__ an_BadStanding___init__ : Option Addr} {sl_BadStanding___init__ : Array (Option Value)}
  {f_BadWay___init__ : Addr} {oc_BadWay___init__ kV_BadWay___init__ dc_BadWay___init__ pm_BadWay___init__ cd_BadWay___init__ ct_BadWay___init__ : Value} {od_BadWay___init__ an_BadWay___init__ : Option Addr} {sl_BadWay___init__ : Array (Option Value)}
  {f_NoWay___init__ : Addr} {oc_NoWay___init__ kV_NoWay___init__ dc_NoWay___init__ pm_NoWay___init__ cd_NoWay___init__ ct_NoWay___init__ : Value} {od_NoWay___init__ an_NoWay___init__ : Option Addr} {sl_NoWay___init__ : Array (Option Value)}
  {f_TooMany___init__ : Addr} {oc_TooMany___init__ kV_TooMany___init__ dc_TooMany___init__ pm_TooMany___init__ cd_TooMany___init__ ct_TooMany___init__ : Value} {od_TooMany___init__ an_TooMany___init__ : Option Addr} {sl_TooMany___init__ : Array (Option Value)}
  {f_NoDoor___init__ : Addr} {oc_NoDoor___init__ kV_NoDoor___init__ dc_NoDoor___init__ pm_NoDoor___init__ cd_NoDoor___init__ ct_NoDoor___init__ : Value} {od_NoDoor___init__ an_NoDoor___init__ : Option Addr} {sl_NoDoor___init__ : Array (Option Value)}
  {f_NoBegin___init__ : Addr} {oc_NoBegin___init__ kV_NoBegin___init__ dc_NoBegin___init__ pm_NoBegin___init__ cd_NoBegin___init__ ct_NoBegin___init__ : Value} {od_NoBegin___init__ an_NoBegin___init__ : Option Addr} {sl_NoBegin___init__ : Array (Option Value)}
  {f_NoOwner___init__ : Addr} {oc_NoOwner___init__ kV_NoOwner___init__ dc_NoOwner___init__ pm_NoOwner___init__ cd_NoOwner___init__ ct_NoOwner___init__ : Value} {od_NoOwner___init__ an_NoOwner___init__ : Option Addr} {sl_NoOwner___init__ : Array (Option Value)}
  {f_NoRow___init__ : Addr} {oc_NoRow___init__ kV_NoRow___init__ dc_NoRow___init__ pm_NoRow___init__ cd_NoRow___init__ ct_NoRow___init__ : Value} {od_NoRow___init__ an_NoRow___init__ : Option Addr} {sl_NoRow___init__ : Array (Option Value)}
  {f_NoRule___init__ : Addr} {oc_NoRule___init__ kV_NoRule___init__ dc_NoRule___init__ pm_NoRule___init__ cd_NoRule___init__ ct_NoRule___init__ : Value} {od_NoRule___init__ an_NoRule___init__ : Option Addr} {sl_NoRule___init__ : Array (Option Value)}
  {f_NoDivisor___init__ : Addr} {oc_NoDivisor___init__ kV_NoDivisor___init__ dc_NoDivisor___init__ pm_NoDivisor___init__ cd_NoDivisor___init__ ct_NoDivisor___init__ : Value} {od_NoDivisor___init__ an_NoDivisor___init__ : Option Addr} {sl_NoDivisor___init__ : Array (Option Value)}
  {f_Waits___init__ : Addr} {oc_Waits___init__ kV_Waits___init__ dc_Waits___init__ pm_Waits___init__ cd_Waits___init__ ct_Waits___init__ : Value} {od_Waits___init__ an_Waits___init__ : Option Addr} {sl_Waits___init__ : Array (Option Value)}
  {f_Over___init__ : Addr} {oc_Over___init__ kV_Over___init__ dc_Over___init__ pm_Over___init__ cd_Over___init__ ct_Over___init__ : Value} {od_Over___init__ an_Over___init__ : Option Addr} {sl_Over___init__ : Array (Option Value)}
  {f_Busy___init__ : Addr} {oc_Busy___init__ kV_Busy___init__ dc_Busy___init__ pm_Busy___init__ cd_Busy___init__ ct_Busy___init__ : Value} {od_Busy___init__ an_Busy___init__ : Option Addr} {sl_Busy___init__ : Array (Option Value)}
  {f_law_values : Addr} {oc_law_values kV_law_values dc_law_values pm_law_values cd_law_values ct_law_values : Value} {od_law_values an_law_values : Option Addr} {sl_law_values : Array (Option Value)}
  {f_law_bases : Addr} {oc_law_bases kV_law_bases dc_law_bases pm_law_bases cd_law_bases ct_law_bases : Value} {od_law_bases an_law_bases : Option Addr} {sl_law_bases : Array (Option Value)}
  {f_law_first : Addr} {oc_law_first kV_law_first dc_law_first pm_law_first cd_law_first ct_law_first : Value} {od_law_first an_law_first : Option Addr} {sl_law_first : Array (Option Value)}
  {f_law_row : Addr} {oc_law_row kV_law_row dc_law_row pm_law_row cd_law_row ct_law_row : Value} {od_law_row an_law_row : Option Addr} {sl_law_row : Array (Option Value)}
  {f_law_second : Addr} {oc_law_second kV_law_second dc_law_second pm_law_second cd_law_second ct_law_second : Value} {od_law_second an_law_second : Option Addr} {sl_law_second : Array (Option Value)}
  {f_law : Addr} {oc_law kV_law dc_law pm_law cd_law ct_law : Value} {od_law an_law : Option Addr} {sl_law : Array (Option Value)}
  {c_CountsheldError : Addr} {enm_CountsheldError eq_CountsheldError : Str} {eN_CountsheldError : Addr} {ebs_CountsheldError : List Value} {esn_CountsheldError : List Str} {esub_CountsheldError : List Value} {eab_CountsheldError : Bool} {ecol_CountsheldError : Option Bool} {edd_CountsheldError : Option Addr} {ek0_CountsheldError ek1_CountsheldError ek2_CountsheldError ek3_CountsheldError ek5_CountsheldError : Option Value}
  {c_NotKept : Addr} {enm_NotKept eq_NotKept : Str} {eN_NotKept : Addr} {ebs_NotKept : List Value} {esn_NotKept : List Str} {esub_NotKept : List Value} {eab_NotKept : Bool} {ecol_NotKept : Option Bool} {edd_NotKept : Option Addr} {ek0_NotKept ek1_NotKept ek2_NotKept ek3_NotKept ek5_NotKept : Option Value}
  {c_Unfit : Addr} {enm_Unfit eq_Unfit : Str} {eN_Unfit : Addr} {ebs_Unfit : List Value} {esn_Unfit : List Str} {esub_Unfit : List Value} {eab_Unfit : Bool} {ecol_Unfit : Option Bool} {edd_Unfit : Option Addr} {ek0_Unfit ek1_Unfit ek2_Unfit ek3_Unfit ek5_Unfit : Option Value}
  {c_Refused : Addr} {enm_Refused eq_Refused : Str} {eN_Refused : Addr} {ebs_Refused : List Value} {esn_Refused : List Str} {esub_Refused : List Value} {eab_Refused : Bool} {ecol_Refused : Option Bool} {edd_Refused : Option Addr} {ek0_Refused ek1_Refused ek2_Refused ek3_Refused ek5_Refused : Option Value}
  {c_BadWord : Addr} {enm_BadWord eq_BadWord : Str} {eN_BadWord : Addr} {ebs_BadWord : List Value} {esn_BadWord : List Str} {esub_BadWord : List Value} {eab_BadWord : Bool} {ecol_BadWord : Option Bool} {edd_BadWord : Option Addr} {ek0_BadWord ek1_BadWord ek2_BadWord ek3_BadWord ek5_BadWord : Option Value}
  {c_BadNumber : Addr} {enm_BadNumber eq_BadNumber : Str} {eN_BadNumber : Addr} {ebs_BadNumber : List Value} {esn_BadNumber : List Str} {esub_BadNumber : List Value} {eab_BadNumber : Bool} {ecol_BadNumber : Option Bool} {edd_BadNumber : Option Addr} {ek0_BadNumber ek1_BadNumber ek2_BadNumber ek3_BadNumber ek5_BadNumber : Option Value}
  {c_BadCounts : Addr} {enm_BadCounts eq_BadCounts : Str} {eN_BadCounts : Addr} {ebs_BadCounts : List Value} {esn_BadCounts : List Str} {esub_BadCounts : List Value} {eab_BadCounts : Bool} {ecol_BadCounts : Option Bool} {edd_BadCounts : Option Addr} {ek0_BadCounts ek1_BadCounts ek2_BadCounts ek3_BadCounts ek5_BadCounts : Option Value}
  {c_BadRule : Addr} {enm_BadRule eq_BadRule : Str} {eN_BadRule : Addr} {ebs_BadRule : List Value} {esn_BadRule : List Str} {esub_BadRule : List Value} {eab_BadRule : Bool} {ecol_BadRule : Option Bool} {edd_BadRule : Option Addr} {ek0_BadRule ek1_BadRule ek2_BadRule ek3_BadRule ek5_BadRule : Option Value}
  {c_BadRules : Addr} {enm_BadRules eq_BadRules : Str} {eN_BadRules : Addr} {ebs_BadRules : List Value} {esn_BadRules : List Str} {esub_BadRules : List Value} {eab_BadRules : Bool} {ecol_BadRules : Option Bool} {edd_BadRules : Option Addr} {ek0_BadRules ek1_BadRules ek2_BadRules ek3_BadRules ek5_BadRules : Option Value}
  {c_BadDoor : Addr} {enm_BadDoor eq_BadDoor : Str} {eN_BadDoor : Addr} {ebs_BadDoor : List Value} {esn_BadDoor : List Str} {esub_BadDoor : List Value} {eab_BadDoor : Bool} {ecol_BadDoor : Option Bool} {edd_BadDoor : Option Addr} {ek0_BadDoor ek1_BadDoor ek2_BadDoor ek3_BadDoor ek5_BadDoor : Option Value}
  {c_BadDesk : Addr} {enm_BadDesk eq_BadDesk : Str} {eN_BadDesk : Addr} {ebs_BadDesk : List Value} {esn_BadDesk : List Str} {esub_BadDesk : List Value} {eab_BadDesk : Bool} {ecol_BadDesk : Option Bool} {edd_BadDesk : Option Addr} {ek0_BadDesk ek1_BadDesk ek2_BadDesk ek3_BadDesk ek5_BadDesk : Option Value}
  {c_BadText : Addr} {enm_BadText eq_BadText : Str} {eN_BadText : Addr} {ebs_BadText : List Value} {esn_BadText : List Str} {esub_BadText : List Value} {eab_BadText : Bool} {ecol_BadText : Option Bool} {edd_BadText : Option Addr} {ek0_BadText ek1_BadText ek2_BadText ek3_BadText ek5_BadText : Option Value}
  {c_NotLoose : Addr} {enm_NotLoose eq_NotLoose : Str} {eN_NotLoose : Addr} {ebs_NotLoose : List Value} {esn_NotLoose : List Str} {esub_NotLoose : List Value} {eab_NotLoose : Bool} {ecol_NotLoose : Option Bool} {edd_NotLoose : Option Addr} {ek0_NotLoose ek1_NotLoose ek2_NotLoose ek3_NotLoose ek5_NotLoose : Option Value}
  {c_Named : Addr} {enm_Named eq_Named : Str} {eN_Named : Addr} {ebs_Named : List Value} {esn_Named : List Str} {esub_Named : List Value} {eab_Named : Bool} {ecol_Named : Option Bool} {edd_Named : Option Addr} {ek0_Named ek1_Named ek2_Named ek3_Named ek5_Named : Option Value}
  {c_Full : Addr} {enm_Full eq_Full : Str} {eN_Full : Addr} {ebs_Full : List Value} {esn_Full : List Str} {esub_Full : List Value} {eab_Full : Bool} {ecol_Full : Option Bool} {edd_Full : Option Addr} {ek0_Full ek1_Full ek2_Full ek3_Full ek5_Full : Option Value}
  {c_NoPick : Addr} {enm_NoPick eq_NoPick : Str} {eN_NoPick : Addr} {ebs_NoPick : List Value} {esn_NoPick : List Str} {esub_NoPick : List Value} {eab_NoPick : Bool} {ecol_NoPick : Option Bool} {edd_NoPick : Option Addr} {ek0_NoPick ek1_NoPick ek2_NoPick ek3_NoPick ek5_NoPick : Option Value}
  {c_Broken : Addr} {enm_Broken eq_Broken : Str} {eN_Broken : Addr} {ebs_Broken : List Value} {esn_Broken : List Str} {esub_Broken : List Value} {eab_Broken : Bool} {ecol_Broken : Option Bool} {edd_Broken : Option Addr} {ek0_Broken ek1_Broken ek2_Broken ek3_Broken ek5_Broken : Option Value}
  {c_BadHistory : Addr} {enm_BadHistory eq_BadHistory : Str} {eN_BadHistory : Addr} {ebs_BadHistory : List Value} {esn_BadHistory : List Str} {esub_BadHistory : List Value} {eab_BadHistory : Bool} {ecol_BadHistory : Option Bool} {edd_BadHistory : Option Addr} {ek0_BadHistory ek1_BadHistory ek2_BadHistory ek3_BadHistory ek5_BadHistory : Option Value}
  {c_BadStanding : Addr} {enm_BadStanding eq_BadStanding : Str} {eN_BadStanding : Addr} {ebs_BadStanding : List Value} {esn_BadStanding : List Str} {esub_BadStanding : List Value} {eab_BadStanding : Bool} {ecol_BadStanding : Option Bool} {edd_BadStanding : Option Addr} {ek0_BadStanding ek1_BadStanding ek2_BadStanding ek3_BadStanding ek5_BadStanding : Option Value}
  {c_BadWay : Addr} {enm_BadWay eq_BadWay : Str} {eN_BadWay : Addr} {ebs_BadWay : List Value} {esn_BadWay : List Str} {esub_BadWay : List Value} {eab_BadWay : Bool} {ecol_BadWay : Option Bool} {edd_BadWay : Option Addr} {ek0_BadWay ek1_BadWay ek2_BadWay ek3_BadWay ek5_BadWay : Option Value}
  {c_NoWay : Addr} {enm_NoWay eq_NoWay : Str} {eN_NoWay : Addr} {ebs_NoWay : List Value} {esn_NoWay : List Str} {esub_NoWay : List Value} {eab_NoWay : Bool} {ecol_NoWay : Option Bool} {edd_NoWay : Option Addr} {ek0_NoWay ek1_NoWay ek2_NoWay ek3_NoWay ek5_NoWay : Option Value}
  {c_TooMany : Addr} {enm_TooMany eq_TooMany : Str} {eN_TooMany : Addr} {ebs_TooMany : List Value} {esn_TooMany : List Str} {esub_TooMany : List Value} {eab_TooMany : Bool} {ecol_TooMany : Option Bool} {edd_TooMany : Option Addr} {ek0_TooMany ek1_TooMany ek2_TooMany ek3_TooMany ek5_TooMany : Option Value}
  {c_NoDoor : Addr} {enm_NoDoor eq_NoDoor : Str} {eN_NoDoor : Addr} {ebs_NoDoor : List Value} {esn_NoDoor : List Str} {esub_NoDoor : List Value} {eab_NoDoor : Bool} {ecol_NoDoor : Option Bool} {edd_NoDoor : Option Addr} {ek0_NoDoor ek1_NoDoor ek2_NoDoor ek3_NoDoor ek5_NoDoor : Option Value}
  {c_NoBegin : Addr} {enm_NoBegin eq_NoBegin : Str} {eN_NoBegin : Addr} {ebs_NoBegin : List Value} {esn_NoBegin : List Str} {esub_NoBegin : List Value} {eab_NoBegin : Bool} {ecol_NoBegin : Option Bool} {edd_NoBegin : Option Addr} {ek0_NoBegin ek1_NoBegin ek2_NoBegin ek3_NoBegin ek5_NoBegin : Option Value}
  {c_NoOwner : Addr} {enm_NoOwner eq_NoOwner : Str} {eN_NoOwner : Addr} {ebs_NoOwner : List Value} {esn_NoOwner : List Str} {esub_NoOwner : List Value} {eab_NoOwner : Bool} {ecol_NoOwner : Option Bool} {edd_NoOwner : Option Addr} {ek0_NoOwner ek1_NoOwner ek2_NoOwner ek3_NoOwner ek5_NoOwner : Option Value}
  {c_NoRow : Addr} {enm_NoRow eq_NoRow : Str} {eN_NoRow : Addr} {ebs_NoRow : List Value} {esn_NoRow : List Str} {esub_NoRow : List Value} {eab_NoRow : Bool} {ecol_NoRow : Option Bool} {edd_NoRow : Option Addr} {ek0_NoRow ek1_NoRow ek2_NoRow ek3_NoRow ek5_NoRow : Option Value}
  {c_NoRule : Addr} {enm_NoRule eq_NoRule : Str} {eN_NoRule : Addr} {ebs_NoRule : List Value} {esn_NoRule : List Str} {esub_NoRule : List Value} {eab_NoRule : Bool} {ecol_NoRule : Option Bool} {edd_NoRule : Option Addr} {ek0_NoRule ek1_NoRule ek2_NoRule ek3_NoRule ek5_NoRule : Option Value}
  {c_NoDivisor : Addr} {enm_NoDivisor eq_NoDivisor : Str} {eN_NoDivisor : Addr} {ebs_NoDivisor : List Value} {esn_NoDivisor : List Str} {esub_NoDivisor : List Value} {eab_NoDivisor : Bool} {ecol_NoDivisor : Option Bool} {edd_NoDivisor : Option Addr} {ek0_NoDivisor ek1_NoDivisor ek2_NoDivisor ek3_NoDivisor ek5_NoDivisor : Option Value}
  {c_Waits : Addr} {enm_Waits eq_Waits : Str} {eN_Waits : Addr} {ebs_Waits : List Value} {esn_Waits : List Str} {esub_Waits : List Value} {eab_Waits : Bool} {ecol_Waits : Option Bool} {edd_Waits : Option Addr} {ek0_Waits ek1_Waits ek2_Waits ek3_Waits ek5_Waits : Option Value}
  {c_Over : Addr} {enm_Over eq_Over : Str} {eN_Over : Addr} {ebs_Over : List Value} {esn_Over : List Str} {esub_Over : List Value} {eab_Over : Bool} {ecol_Over : Option Bool} {edd_Over : Option Addr} {ek0_Over ek1_Over ek2_Over ek3_Over ek5_Over : Option Value}
  {c_Busy : Addr} {enm_Busy eq_Busy : Str} {eN_Busy : Addr} {ebs_Busy : List Value} {esn_Busy : List Str} {esub_Busy : List Value} {eab_Busy : Bool} {ecol_Busy : Option Bool} {edd_Busy : Option Addr} {ek0_Busy ek1_Busy ek2_Busy ek3_Busy ek5_Busy : Option Value}
  (a_law_source : PySem.W.nsIn K mainGlobals "_law_source" = some (some (.ref f_law_source)))
  (a_law_mixed : PySem.W.nsIn K mainGlobals "_law_mixed" = some (some (.ref f_law_mixed)))
  (a_law_draw : PySem.W.nsIn K mainGlobals "_law_draw" = some (some (.ref f_law_draw)))
  (a_law_number : PySem.W.nsIn K mainGlobals "_law_number" = some (some (.ref f_law_number)))
  (a_law_word : PySem.W.nsIn K mainGlobals "_law_word" = some (some (.ref f_law_word)))
  (a_law_value : PySem.W.nsIn K mainGlobals "_law_value" = some (some (.ref f_law_value)))
  (a_law_values : PySem.W.nsIn K mainGlobals "_law_values" = some (some (.ref f_law_values)))
  (a_law_bases : PySem.W.nsIn K mainGlobals "_law_bases" = some (some (.ref f_law_bases)))
  (a_law_first : PySem.W.nsIn K mainGlobals "_law_first" = some (some (.ref f_law_first)))
  (a_law_row : PySem.W.nsIn K mainGlobals "_law_row" = some (some (.ref f_law_row)))
  (a_law_second : PySem.W.nsIn K mainGlobals "_law_second" = some (some (.ref f_law_second)))
  (a_law : PySem.W.nsIn K mainGlobals "law" = some (some (.ref f_law)))
  (vm_Unfit : PySem.W.nsIn K mainGlobals "Unfit" = some (some (.ref c_Unfit)))
  (vm_Refused : PySem.W.nsIn K mainGlobals "Refused" = some (some (.ref c_Refused)))
  (vm_BadWord : PySem.W.nsIn K mainGlobals "BadWord" = some (some (.ref c_BadWord)))
  (vm_BadNumber : PySem.W.nsIn K mainGlobals "BadNumber" = some (some (.ref c_BadNumber)))
  (vm_BadCounts : PySem.W.nsIn K mainGlobals "BadCounts" = some (some (.ref c_BadCounts)))
  (vm_BadRule : PySem.W.nsIn K mainGlobals "BadRule" = some (some (.ref c_BadRule)))
  (vm_BadRules : PySem.W.nsIn K mainGlobals "BadRules" = some (some (.ref c_BadRules)))
  (vm_BadDoor : PySem.W.nsIn K mainGlobals "BadDoor" = some (some (.ref c_BadDoor)))
  (vm_BadDesk : PySem.W.nsIn K mainGlobals "BadDesk" = some (some (.ref c_BadDesk)))
  (vm_BadText : PySem.W.nsIn K mainGlobals "BadText" = some (some (.ref c_BadText)))
  (vm_NotLoose : PySem.W.nsIn K mainGlobals "NotLoose" = some (some (.ref c_NotLoose)))
  (vm_Named : PySem.W.nsIn K mainGlobals "Named" = some (some (.ref c_Named)))
  (vm_Full : PySem.W.nsIn K mainGlobals "Full" = some (some (.ref c_Full)))
  (vm_NoPick : PySem.W.nsIn K mainGlobals "NoPick" = some (some (.ref c_NoPick)))
  (vm_Broken : PySem.W.nsIn K mainGlobals "Broken" = some (some (.ref c_Broken)))
  (vm_BadHistory : PySem.W.nsIn K mainGlobals "BadHistory" = some (some (.ref c_BadHistory)))
  (vm_BadStanding : PySem.W.nsIn K mainGlobals "BadStanding" = some (some (.ref c_BadStanding)))
  (vm_BadWay : PySem.W.nsIn K mainGlobals "BadWay" = some (some (.ref c_BadWay)))
  (vm_NoWay : PySem.W.nsIn K mainGlobals "NoWay" = some (some (.ref c_NoWay)))
  (vm_TooMany : PySem.W.nsIn K mainGlobals "TooMany" = some (some (.ref c_TooMany)))
  (vm_NoDoor : PySem.W.nsIn K mainGlobals "NoDoor" = some (some (.ref c_NoDoor)))
  (vm_NoBegin : PySem.W.nsIn K mainGlobals "NoBegin" = some (some (.ref c_NoBegin)))
  (vm_NoOwner : PySem.W.nsIn K mainGlobals "NoOwner" = some (some (.ref c_NoOwner)))
  (vm_NoRow : PySem.W.nsIn K mainGlobals "NoRow" = some (some (.ref c_NoRow)))
  (vm_NoRule : PySem.W.nsIn K mainGlobals "NoRule" = some (some (.ref c_NoRule)))
  (vm_NoDivisor : PySem.W.nsIn K mainGlobals "NoDivisor" = some (some (.ref c_NoDivisor)))
  (vm_Waits : PySem.W.nsIn K mainGlobals "Waits" = some (some (.ref c_Waits)))
  (vm_Over : PySem.W.nsIn K mainGlobals "Over" = some (some (.ref c_Over)))
  (vm_Busy : PySem.W.nsIn K mainGlobals "Busy" = some (some (.ref c_Busy)))
  (vm_CountsheldError : PySem.W.nsIn K mainGlobals "CountsheldError" = some (some (.ref c_CountsheldError)))
  (vm_NotKept : PySem.W.nsIn K mainGlobals "NotKept" = some (some (.ref c_NotKept)))
  (l_law_source : K.lookup f_law_source = some ⟨oc_law_source, od_law_source, .func (PySem.W.fnOf "_law_source" "_law_source" (defArgs s_law_source) (defBody s_law_source) (defScope s_law_source) .none kV_law_source dc_law_source pm_law_source an_law_source cd_law_source ct_law_source), sl_law_source⟩)
  (cd2_law_source : PySem.W.codeIn K cd_law_source "_law_source" = true)
  (kp_law_source : PySem.W.keepIn K (.ref f_law_source) = true)
  (l_law_mixed : K.lookup f_law_mixed = some ⟨oc_law_mixed, od_law_mixed, .func (PySem.W.fnOf "_law_mixed" "_law_mixed" (defArgs s_law_mixed) (defBody s_law_mixed) (defScope s_law_mixed) .none kV_law_mixed dc_law_mixed pm_law_mixed an_law_mixed cd_law_mixed ct_law_mixed), sl_law_mixed⟩)
  (cd2_law_mixed : PySem.W.codeIn K cd_law_mixed "_law_mixed" = true)
  (kp_law_mixed : PySem.W.keepIn K (.ref f_law_mixed) = true)
  (l_law_draw : K.lookup f_law_draw = some ⟨oc_law_draw, od_law_draw, .func (PySem.W.fnOf "_law_draw" "_law_draw" (defArgs s_law_draw) (defBody s_law_draw) (defScope s_law_draw) .none kV_law_draw dc_law_draw pm_law_draw an_law_draw cd_law_draw ct_law_draw), sl_law_draw⟩)
  (cd2_law_draw : PySem.W.codeIn K cd_law_draw "_law_draw" = true)
  (kp_law_draw : PySem.W.keepIn K (.ref f_law_draw) = true)
  (l_law_number : K.lookup f_law_number = some ⟨oc_law_number, od_law_number, .func (PySem.W.fnOf "_law_number" "_law_number" (defArgs s_law_number) (defBody s_law_number) (defScope s_law_number) .none kV_law_number dc_law_number pm_law_number an_law_number cd_law_number ct_law_number), sl_law_number⟩)
  (cd2_law_number : PySem.W.codeIn K cd_law_number "_law_number" = true)
  (kp_law_number : PySem.W.keepIn K (.ref f_law_number) = true)
  (l_law_word : K.lookup f_law_word = some ⟨oc_law_word, od_law_word, .func (PySem.W.fnOf "_law_word" "_law_word" (defArgs s_law_word) (defBody s_law_word) (defScope s_law_word) .none kV_law_word dc_law_word pm_law_word an_law_word cd_law_word ct_law_word), sl_law_word⟩)
  (cd2_law_word : PySem.W.codeIn K cd_law_word "_law_word" = true)
  (kp_law_word : PySem.W.keepIn K (.ref f_law_word) = true)
  (l_law_value : K.lookup f_law_value = some ⟨oc_law_value, od_law_value, .func (PySem.W.fnOf "_law_value" "_law_value" (defArgs s_law_value) (defBody s_law_value) (defScope s_law_value) .none kV_law_value dc_law_value pm_law_value an_law_value cd_law_value ct_law_value), sl_law_value⟩)
  (cd2_law_value : PySem.W.codeIn K cd_law_value "_law_value" = true)
  (kp_law_value : PySem.W.keepIn K (.ref f_law_value) = true)
  (a_Unfit___init__ : PySem.W.findIn K (.ref c_Unfit) "__init__" = some (some (.ref f_Unfit___init__)))
  (l_Unfit___init__ : K.lookup f_Unfit___init__ = some ⟨oc_Unfit___init__, od_Unfit___init__, .func (PySem.W.fnOf "__init__" "Unfit.__init__" (defArgs s_Unfit___init__) (defBody s_Unfit___init__) (defScope s_Unfit___init__) .none kV_Unfit___init__ dc_Unfit___init__ pm_Unfit___init__ an_Unfit___init__ cd_Unfit___init__ ct_Unfit___init__), sl_Unfit___init__⟩)
  (cd2_Unfit___init__ : PySem.W.codeIn K cd_Unfit___init__ "Unfit.__init__" = true)
  (kp_Unfit___init__ : PySem.W.keepIn K (.ref f_Unfit___init__) = true)
  (a_Refused___init__ : PySem.W.findIn K (.ref c_Refused) "__init__" = some (some (.ref f_Refused___init__)))
  (l_Refused___init__ : K.lookup f_Refused___init__ = some ⟨oc_Refused___init__, od_Refused___init__, .func (PySem.W.fnOf "__init__" "Refused.__init__" (defArgs s_Refused___init__) (defBody s_Refused___init__) (defScope s_Refused___init__) .none kV_Refused___init__ dc_Refused___init__ pm_Refused___init__ an_Refused___init__ cd_Refused___init__ ct_Refused___init__), sl_Refused___init__⟩)
  (cd2_Refused___init__ : PySem.W.codeIn K cd_Refused___init__ "Refused.__init__" = true)
  (kp_Refused___init__ : PySem.W.keepIn K (.ref f_Refused___init__) = true)
  (a_BadWord___init__ : PySem.W.findIn K (.ref c_BadWord) "__init__" = some (some (.ref f_BadWord___init__)))
  (l_BadWord___init__ : K.lookup f_BadWord___init__ = some ⟨oc_BadWord___init__, od_BadWord___init__, .func (PySem.W.fnOf "__init__" "BadWord.__init__" (defArgs s_BadWord___init__) (defBody s_BadWord___init__) (defScope s_BadWord___init__) .none kV_BadWord___init__ dc_BadWord___init__ pm_BadWord___init__ an_BadWord___init__ cd_BadWord___init__ ct_BadWord___init__), sl_BadWord___init__⟩)
  (cd2_BadWord___init__ : PySem.W.codeIn K cd_BadWord___init__ "BadWord.__init__" = true)
  (kp_BadWord___init__ : PySem.W.keepIn K (.ref f_BadWord___init__) = true)
  (a_BadNumber___init__ : PySem.W.findIn K (.ref c_BadNumber) "__init__" = some (some (.ref f_BadNumber___init__)))
  (l_BadNumber___init__ : K.lookup f_BadNumber___init__ = some ⟨oc_BadNumber___init__, od_BadNumber___init__, .func (PySem.W.fnOf "__init__" "BadNumber.__init__" (defArgs s_BadNumber___init__) (defBody s_BadNumber___init__) (defScope s_BadNumber___init__) .none kV_BadNumber___init__ dc_BadNumber___init__ pm_BadNumber___init__ an_BadNumber___init__ cd_BadNumber___init__ ct_BadNumber___init__), sl_BadNumber___init__⟩)
  (cd2_BadNumber___init__ : PySem.W.codeIn K cd_BadNumber___init__ "BadNumber.__init__" = true)
  (kp_BadNumber___init__ : PySem.W.keepIn K (.ref f_BadNumber___init__) = true)
  (a_BadCounts___init__ : PySem.W.findIn K (.ref c_BadCounts) "__init__" = some (some (.ref f_BadCounts___init__)))
  (l_BadCounts___init__ : K.lookup f_BadCounts___init__ = some ⟨oc_BadCounts___init__, od_BadCounts___init__, .func (PySem.W.fnOf "__init__" "BadCounts.__init__" (defArgs s_BadCounts___init__) (defBody s_BadCounts___init__) (defScope s_BadCounts___init__) .none kV_BadCounts___init__ dc_BadCounts___init__ pm_BadCounts___init__ an_BadCounts___init__ cd_BadCounts___init__ ct_BadCounts___init__), sl_BadCounts___init__⟩)
  (cd2_BadCounts___init__ : PySem.W.codeIn K cd_BadCounts___init__ "BadCounts.__init__" = true)
  (kp_BadCounts___init__ : PySem.W.keepIn K (.ref f_BadCounts___init__) = true)
  (a_BadRule___init__ : PySem.W.findIn K (.ref c_BadRule) "__init__" = some (some (.ref f_BadRule___init__)))
  (l_BadRule___init__ : K.lookup f_BadRule___init__ = some ⟨oc_BadRule___init__, od_BadRule___init__, .func (PySem.W.fnOf "__init__" "BadRule.__init__" (defArgs s_BadRule___init__) (defBody s_BadRule___init__) (defScope s_BadRule___init__) .none kV_BadRule___init__ dc_BadRule___init__ pm_BadRule___init__ an_BadRule___init__ cd_BadRule___init__ ct_BadRule___init__), sl_BadRule___init__⟩)
  (cd2_BadRule___init__ : PySem.W.codeIn K cd_BadRule___init__ "BadRule.__init__" = true)
  (kp_BadRule___init__ : PySem.W.keepIn K (.ref f_BadRule___init__) = true)
  (a_BadRules___init__ : PySem.W.findIn K (.ref c_BadRules) "__init__" = some (some (.ref f_BadRules___init__)))
  (l_BadRules___init__ : K.lookup f_BadRules___init__ = some ⟨oc_BadRules___init__, od_BadRules___init__, .func (PySem.W.fnOf "__init__" "BadRules.__init__" (defArgs s_BadRules___init__) (defBody s_BadRules___init__) (defScope s_BadRules___init__) .none kV_BadRules___init__ dc_BadRules___init__ pm_BadRules___init__ an_BadRules___init__ cd_BadRules___init__ ct_BadRules___init__), sl_BadRules___init__⟩)
  (cd2_BadRules___init__ : PySem.W.codeIn K cd_BadRules___init__ "BadRules.__init__" = true)
  (kp_BadRules___init__ : PySem.W.keepIn K (.ref f_BadRules___init__) = true)
  (a_BadDoor___init__ : PySem.W.findIn K (.ref c_BadDoor) "__init__" = some (some (.ref f_BadDoor___init__)))
  (l_BadDoor___init__ : K.lookup f_BadDoor___init__ = some ⟨oc_BadDoor___init__, od_BadDoor___init__, .func (PySem.W.fnOf "__init__" "BadDoor.__init__" (defArgs s_BadDoor___init__) (defBody s_BadDoor___init__) (defScope s_BadDoor___init__) .none kV_BadDoor___init__ dc_BadDoor___init__ pm_BadDoor___init__ an_BadDoor___init__ cd_BadDoor___init__ ct_BadDoor___init__), sl_BadDoor___init__⟩)
  (cd2_BadDoor___init__ : PySem.W.codeIn K cd_BadDoor___init__ "BadDoor.__init__" = true)
  (kp_BadDoor___init__ : PySem.W.keepIn K (.ref f_BadDoor___init__) = true)
  (a_BadDesk___init__ : PySem.W.findIn K (.ref c_BadDesk) "__init__" = some (some (.ref f_BadDesk___init__)))
  (l_BadDesk___init__ : K.lookup f_BadDesk___init__ = some ⟨oc_BadDesk___init__, od_BadDesk___init__, .func (PySem.W.fnOf "__init__" "BadDesk.__init__" (defArgs s_BadDesk___init__) (defBody s_BadDesk___init__) (defScope s_BadDesk___init__) .none kV_BadDesk___init__ dc_BadDesk___init__ pm_BadDesk___init__ an_BadDesk___init__ cd_BadDesk___init__ ct_BadDesk___init__), sl_BadDesk___init__⟩)
  (cd2_BadDesk___init__ : PySem.W.codeIn K cd_BadDesk___init__ "BadDesk.__init__" = true)
  (kp_BadDesk___init__ : PySem.W.keepIn K (.ref f_BadDesk___init__) = true)
  (a_BadText___init__ : PySem.W.findIn K (.ref c_BadText) "__init__" = some (some (.ref f_BadText___init__)))
  (l_BadText___init__ : K.lookup f_BadText___init__ = some ⟨oc_BadText___init__, od_BadText___init__, .func (PySem.W.fnOf "__init__" "BadText.__init__" (defArgs s_BadText___init__) (defBody s_BadText___init__) (defScope s_BadText___init__) .none kV_BadText___init__ dc_BadText___init__ pm_BadText___init__ an_BadText___init__ cd_BadText___init__ ct_BadText___init__), sl_BadText___init__⟩)
  (cd2_BadText___init__ : PySem.W.codeIn K cd_BadText___init__ "BadText.__init__" = true)
  (kp_BadText___init__ : PySem.W.keepIn K (.ref f_BadText___init__) = true)
  (a_NotLoose___init__ : PySem.W.findIn K (.ref c_NotLoose) "__init__" = some (some (.ref f_NotLoose___init__)))
  (l_NotLoose___init__ : K.lookup f_NotLoose___init__ = some ⟨oc_NotLoose___init__, od_NotLoose___init__, .func (PySem.W.fnOf "__init__" "NotLoose.__init__" (defArgs s_NotLoose___init__) (defBody s_NotLoose___init__) (defScope s_NotLoose___init__) .none kV_NotLoose___init__ dc_NotLoose___init__ pm_NotLoose___init__ an_NotLoose___init__ cd_NotLoose___init__ ct_NotLoose___init__), sl_NotLoose___init__⟩)
  (cd2_NotLoose___init__ : PySem.W.codeIn K cd_NotLoose___init__ "NotLoose.__init__" = true)
  (kp_NotLoose___init__ : PySem.W.keepIn K (.ref f_NotLoose___init__) = true)
  (a_Named___init__ : PySem.W.findIn K (.ref c_Named) "__init__" = some (some (.ref f_Named___init__)))
  (l_Named___init__ : K.lookup f_Named___init__ = some ⟨oc_Named___init__, od_Named___init__, .func (PySem.W.fnOf "__init__" "Named.__init__" (defArgs s_Named___init__) (defBody s_Named___init__) (defScope s_Named___init__) .none kV_Named___init__ dc_Named___init__ pm_Named___init__ an_Named___init__ cd_Named___init__ ct_Named___init__), sl_Named___init__⟩)
  (cd2_Named___init__ : PySem.W.codeIn K cd_Named___init__ "Named.__init__" = true)
  (kp_Named___init__ : PySem.W.keepIn K (.ref f_Named___init__) = true)
  (a_Full___init__ : PySem.W.findIn K (.ref c_Full) "__init__" = some (some (.ref f_Full___init__)))
  (l_Full___init__ : K.lookup f_Full___init__ = some ⟨oc_Full___init__, od_Full___init__, .func (PySem.W.fnOf "__init__" "Full.__init__" (defArgs s_Full___init__) (defBody s_Full___init__) (defScope s_Full___init__) .none kV_Full___init__ dc_Full___init__ pm_Full___init__ an_Full___init__ cd_Full___init__ ct_Full___init__), sl_Full___init__⟩)
  (cd2_Full___init__ : PySem.W.codeIn K cd_Full___init__ "Full.__init__" = true)
  (kp_Full___init__ : PySem.W.keepIn K (.ref f_Full___init__) = true)
  (a_NoPick___init__ : PySem.W.findIn K (.ref c_NoPick) "__init__" = some (some (.ref f_NoPick___init__)))
  (l_NoPick___init__ : K.lookup f_NoPick___init__ = some ⟨oc_NoPick___init__, od_NoPick___init__, .func (PySem.W.fnOf "__init__" "NoPick.__init__" (defArgs s_NoPick___init__) (defBody s_NoPick___init__) (defScope s_NoPick___init__) .none kV_NoPick___init__ dc_NoPick___init__ pm_NoPick___init__ an_NoPick___init__ cd_NoPick___init__ ct_NoPick___init__), sl_NoPick___init__⟩)
  (cd2_NoPick___init__ : PySem.W.codeIn K cd_NoPick___init__ "NoPick.__init__" = true)
  (kp_NoPick___init__ : PySem.W.keepIn K (.ref f_NoPick___init__) = true)
  (a_Broken___init__ : PySem.W.findIn K (.ref c_Broken) "__init__" = some (some (.ref f_Broken___init__)))
  (l_Broken___init__ : K.lookup f_Broken___init__ = some ⟨oc_Broken___init__, od_Broken___init__, .func (PySem.W.fnOf "__init__" "Broken.__init__" (defArgs s_Broken___init__) (defBody s_Broken___init__) (defScope s_Broken___init__) .none kV_Broken___init__ dc_Broken___init__ pm_Broken___init__ an_Broken___init__ cd_Broken___init__ ct_Broken___init__), sl_Broken___init__⟩)
  (cd2_Broken___init__ : PySem.W.codeIn K cd_Broken___init__ "Broken.__init__" = true)
  (kp_Broken___init__ : PySem.W.keepIn K (.ref f_Broken___init__) = true)
  (a_BadHistory___init__ : PySem.W.findIn K (.ref c_BadHistory) "__init__" = some (some (.ref f_BadHistory___init__)))
  (l_BadHistory___init__ : K.lookup f_BadHistory___init__ = some ⟨oc_BadHistory___init__, od_BadHistory___init__, .func (PySem.W.fnOf "__init__" "BadHistory.__init__" (defArgs s_BadHistory___init__) (defBody s_BadHistory___init__) (defScope s_BadHistory___init__) .none kV_BadHistory___init__ dc_BadHistory___init__ pm_BadHistory___init__ an_BadHistory___init__ cd_BadHistory___init__ ct_BadHistory___init__), sl_BadHistory___init__⟩)
  (cd2_BadHistory___init__ : PySem.W.codeIn K cd_BadHistory___init__ "BadHistory.__init__" = true)
  (kp_BadHistory___init__ : PySem.W.keepIn K (.ref f_BadHistory___init__) = true)
  (a_BadStanding___init__ : PySem.W.findIn K (.ref c_BadStanding) "__init__" = some (some (.ref f_BadStanding___init__)))
  (l_BadStanding___init__ : K.lookup f_BadStanding___init__ = some ⟨oc_BadStanding___init__, od_BadStanding___init__, .func (PySem.W.fnOf "__init__" "BadStanding.__init__" (defArgs s_BadStanding___init__) (defBody s_BadStanding___init__) (defScope s_BadStanding___init__) .none kV_BadStanding___init__ dc_BadStanding___init__ pm_BadStanding___init__ an_BadStanding___init__ cd_BadStanding___init__ ct_BadStanding___init__), sl_BadStanding___init__⟩)
  (cd2_BadStanding___init__ : PySem.W.codeIn K cd_BadStanding___init__ "BadStanding.__init__" = true)
  (kp_BadStanding___init__ : PySem.W.keepIn K (.ref f_BadStanding___init__) = true)
  (a_BadWay___init__ : PySem.W.findIn K (.ref c_BadWay) "__init__" = some (some (.ref f_BadWay___init__)))
  (l_BadWay___init__ : K.lookup f_BadWay___init__ = some ⟨oc_BadWay___init__, od_BadWay___init__, .func (PySem.W.fnOf "__init__" "BadWay.__init__" (defArgs s_BadWay___init__) (defBody s_BadWay___init__) (defScope s_BadWay___init__) .none kV_BadWay___init__ dc_BadWay___init__ pm_BadWay___init__ an_BadWay___init__ cd_BadWay___init__ ct_BadWay___init__), sl_BadWay___init__⟩)
  (cd2_BadWay___init__ : PySem.W.codeIn K cd_BadWay___init__ "BadWay.__init__" = true)
  (kp_BadWay___init__ : PySem.W.keepIn K (.ref f_BadWay___init__) = true)
  (a_NoWay___init__ : PySem.W.findIn K (.ref c_NoWay) "__init__" = some (some (.ref f_NoWay___init__)))
  (l_NoWay___init__ : K.lookup f_NoWay___init__ = some ⟨oc_NoWay___init__, od_NoWay___init__, .func (PySem.W.fnOf "__init__" "NoWay.__init__" (defArgs s_NoWay___init__) (defBody s_NoWay___init__) (defScope s_NoWay___init__) .none kV_NoWay___init__ dc_NoWay___init__ pm_NoWay___init__ an_NoWay___init__ cd_NoWay___init__ ct_NoWay___init__), sl_NoWay___init__⟩)
  (cd2_NoWay___init__ : PySem.W.codeIn K cd_NoWay___init__ "NoWay.__init__" = true)
  (kp_NoWay___init__ : PySem.W.keepIn K (.ref f_NoWay___init__) = true)
  (a_TooMany___init__ : PySem.W.findIn K (.ref c_TooMany) "__init__" = some (some (.ref f_TooMany___init__)))
  (l_TooMany___init__ : K.lookup f_TooMany___init__ = some ⟨oc_TooMany___init__, od_TooMany___init__, .func (PySem.W.fnOf "__init__" "TooMany.__init__" (defArgs s_TooMany___init__) (defBody s_TooMany___init__) (defScope s_TooMany___init__) .none kV_TooMany___init__ dc_TooMany___init__ pm_TooMany___init__ an_TooMany___init__ cd_TooMany___init__ ct_TooMany___init__), sl_TooMany___init__⟩)
  (cd2_TooMany___init__ : PySem.W.codeIn K cd_TooMany___init__ "TooMany.__init__" = true)
  (kp_TooMany___init__ : PySem.W.keepIn K (.ref f_TooMany___init__) = true)
  (a_NoDoor___init__ : PySem.W.findIn K (.ref c_NoDoor) "__init__" = some (some (.ref f_NoDoor___init__)))
  (l_NoDoor___init__ : K.lookup f_NoDoor___init__ = some ⟨oc_NoDoor___init__, od_NoDoor___init__, .func (PySem.W.fnOf "__init__" "NoDoor.__init__" (defArgs s_NoDoor___init__) (defBody s_NoDoor___init__) (defScope s_NoDoor___init__) .none kV_NoDoor___init__ dc_NoDoor___init__ pm_NoDoor___init__ an_NoDoor___init__ cd_NoDoor___init__ ct_NoDoor___init__), sl_NoDoor___init__⟩)
  (cd2_NoDoor___init__ : PySem.W.codeIn K cd_NoDoor___init__ "NoDoor.__init__" = true)
  (kp_NoDoor___init__ : PySem.W.keepIn K (.ref f_NoDoor___init__) = true)
  (a_NoBegin___init__ : PySem.W.findIn K (.ref c_NoBegin) "__init__" = some (some (.ref f_NoBegin___init__)))
  (l_NoBegin___init__ : K.lookup f_NoBegin___init__ = some ⟨oc_NoBegin___init__, od_NoBegin___init__, .func (PySem.W.fnOf "__init__" "NoBegin.__init__" (defArgs s_NoBegin___init__) (defBody s_NoBegin___init__) (defScope s_NoBegin___init__) .none kV_NoBegin___init__ dc_NoBegin___init__ pm_NoBegin___init__ an_NoBegin___init__ cd_NoBegin___init__ ct_NoBegin___init__), sl_NoBegin___init__⟩)
  (cd2_NoBegin___init__ : PySem.W.codeIn K cd_NoBegin___init__ "NoBegin.__init__" = true)
  (kp_NoBegin___init__ : PySem.W.keepIn K (.ref f_NoBegin___init__) = true)
  (a_NoOwner___init__ : PySem.W.findIn K (.ref c_NoOwner) "__init__" = some (some (.ref f_NoOwner___init__)))
  (l_NoOwner___init__ : K.lookup f_NoOwner___init__ = some ⟨oc_NoOwner___init__, od_NoOwner___init__, .func (PySem.W.fnOf "__init__" "NoOwner.__init__" (defArgs s_NoOwner___init__) (defBody s_NoOwner___init__) (defScope s_NoOwner___init__) .none kV_NoOwner___init__ dc_NoOwner___init__ pm_NoOwner___init__ an_NoOwner___init__ cd_NoOwner___init__ ct_NoOwner___init__), sl_NoOwner___init__⟩)
  (cd2_NoOwner___init__ : PySem.W.codeIn K cd_NoOwner___init__ "NoOwner.__init__" = true)
  (kp_NoOwner___init__ : PySem.W.keepIn K (.ref f_NoOwner___init__) = true)
  (a_NoRow___init__ : PySem.W.findIn K (.ref c_NoRow) "__init__" = some (some (.ref f_NoRow___init__)))
  (l_NoRow___init__ : K.lookup f_NoRow___init__ = some ⟨oc_NoRow___init__, od_NoRow___init__, .func (PySem.W.fnOf "__init__" "NoRow.__init__" (defArgs s_NoRow___init__) (defBody s_NoRow___init__) (defScope s_NoRow___init__) .none kV_NoRow___init__ dc_NoRow___init__ pm_NoRow___init__ an_NoRow___init__ cd_NoRow___init__ ct_NoRow___init__), sl_NoRow___init__⟩)
  (cd2_NoRow___init__ : PySem.W.codeIn K cd_NoRow___init__ "NoRow.__init__" = true)
  (kp_NoRow___init__ : PySem.W.keepIn K (.ref f_NoRow___init__) = true)
  (a_NoRule___init__ : PySem.W.findIn K (.ref c_NoRule) "__init__" = some (some (.ref f_NoRule___init__)))
  (l_NoRule___init__ : K.lookup f_NoRule___init__ = some ⟨oc_NoRule___init__, od_NoRule___init__, .func (PySem.W.fnOf "__init__" "NoRule.__init__" (defArgs s_NoRule___init__) (defBody s_NoRule___init__) (defScope s_NoRule___init__) .none kV_NoRule___init__ dc_NoRule___init__ pm_NoRule___init__ an_NoRule___init__ cd_NoRule___init__ ct_NoRule___init__), sl_NoRule___init__⟩)
  (cd2_NoRule___init__ : PySem.W.codeIn K cd_NoRule___init__ "NoRule.__init__" = true)
  (kp_NoRule___init__ : PySem.W.keepIn K (.ref f_NoRule___init__) = true)
  (a_NoDivisor___init__ : PySem.W.findIn K (.ref c_NoDivisor) "__init__" = some (some (.ref f_NoDivisor___init__)))
  (l_NoDivisor___init__ : K.lookup f_NoDivisor___init__ = some ⟨oc_NoDivisor___init__, od_NoDivisor___init__, .func (PySem.W.fnOf "__init__" "NoDivisor.__init__" (defArgs s_NoDivisor___init__) (defBody s_NoDivisor___init__) (defScope s_NoDivisor___init__) .none kV_NoDivisor___init__ dc_NoDivisor___init__ pm_NoDivisor___init__ an_NoDivisor___init__ cd_NoDivisor___init__ ct_NoDivisor___init__), sl_NoDivisor___init__⟩)
  (cd2_NoDivisor___init__ : PySem.W.codeIn K cd_NoDivisor___init__ "NoDivisor.__init__" = true)
  (kp_NoDivisor___init__ : PySem.W.keepIn K (.ref f_NoDivisor___init__) = true)
  (a_Waits___init__ : PySem.W.findIn K (.ref c_Waits) "__init__" = some (some (.ref f_Waits___init__)))
  (l_Waits___init__ : K.lookup f_Waits___init__ = some ⟨oc_Waits___init__, od_Waits___init__, .func (PySem.W.fnOf "__init__" "Waits.__init__" (defArgs s_Waits___init__) (defBody s_Waits___init__) (defScope s_Waits___init__) .none kV_Waits___init__ dc_Waits___init__ pm_Waits___init__ an_Waits___init__ cd_Waits___init__ ct_Waits___init__), sl_Waits___init__⟩)
  (cd2_Waits___init__ : PySem.W.codeIn K cd_Waits___init__ "Waits.__init__" = true)
  (kp_Waits___init__ : PySem.W.keepIn K (.ref f_Waits___init__) = true)
  (a_Over___init__ : PySem.W.findIn K (.ref c_Over) "__init__" = some (some (.ref f_Over___init__)))
  (l_Over___init__ : K.lookup f_Over___init__ = some ⟨oc_Over___init__, od_Over___init__, .func (PySem.W.fnOf "__init__" "Over.__init__" (defArgs s_Over___init__) (defBody s_Over___init__) (defScope s_Over___init__) .none kV_Over___init__ dc_Over___init__ pm_Over___init__ an_Over___init__ cd_Over___init__ ct_Over___init__), sl_Over___init__⟩)
  (cd2_Over___init__ : PySem.W.codeIn K cd_Over___init__ "Over.__init__" = true)
  (kp_Over___init__ : PySem.W.keepIn K (.ref f_Over___init__) = true)
  (a_Busy___init__ : PySem.W.findIn K (.ref c_Busy) "__init__" = some (some (.ref f_Busy___init__)))
  (l_Busy___init__ : K.lookup f_Busy___init__ = some ⟨oc_Busy___init__, od_Busy___init__, .func (PySem.W.fnOf "__init__" "Busy.__init__" (defArgs s_Busy___init__) (defBody s_Busy___init__) (defScope s_Busy___init__) .none kV_Busy___init__ dc_Busy___init__ pm_Busy___init__ an_Busy___init__ cd_Busy___init__ ct_Busy___init__), sl_Busy___init__⟩)
  (cd2_Busy___init__ : PySem.W.codeIn K cd_Busy___init__ "Busy.__init__" = true)
  (kp_Busy___init__ : PySem.W.keepIn K (.ref f_Busy___init__) = true)
  (l_law_values : K.lookup f_law_values = some ⟨oc_law_values, od_law_values, .func (PySem.W.fnOf "_law_values" "_law_values" (defArgs s_law_values) (defBody s_law_values) (defScope s_law_values) .none kV_law_values dc_law_values pm_law_values an_law_values cd_law_values ct_law_values), sl_law_values⟩)
  (cd2_law_values : PySem.W.codeIn K cd_law_values "_law_values" = true)
  (kp_law_values : PySem.W.keepIn K (.ref f_law_values) = true)
  (l_law_bases : K.lookup f_law_bases = some ⟨oc_law_bases, od_law_bases, .func (PySem.W.fnOf "_law_bases" "_law_bases" (defArgs s_law_bases) (defBody s_law_bases) (defScope s_law_bases) .none kV_law_bases dc_law_bases pm_law_bases an_law_bases cd_law_bases ct_law_bases), sl_law_bases⟩)
  (cd2_law_bases : PySem.W.codeIn K cd_law_bases "_law_bases" = true)
  (kp_law_bases : PySem.W.keepIn K (.ref f_law_bases) = true)
  (l_law_first : K.lookup f_law_first = some ⟨oc_law_first, od_law_first, .func (PySem.W.fnOf "_law_first" "_law_first" (defArgs s_law_first) (defBody s_law_first) (defScope s_law_first) .none kV_law_first dc_law_first pm_law_first an_law_first cd_law_first ct_law_first), sl_law_first⟩)
  (cd2_law_first : PySem.W.codeIn K cd_law_first "_law_first" = true)
  (kp_law_first : PySem.W.keepIn K (.ref f_law_first) = true)
  (l_law_row : K.lookup f_law_row = some ⟨oc_law_row, od_law_row, .func (PySem.W.fnOf "_law_row" "_law_row" (defArgs s_law_row) (defBody s_law_row) (defScope s_law_row) .none kV_law_row dc_law_row pm_law_row an_law_row cd_law_row ct_law_row), sl_law_row⟩)
  (cd2_law_row : PySem.W.codeIn K cd_law_row "_law_row" = true)
  (kp_law_row : PySem.W.keepIn K (.ref f_law_row) = true)
  (l_law_second : K.lookup f_law_second = some ⟨oc_law_second, od_law_second, .func (PySem.W.fnOf "_law_second" "_law_second" (defArgs s_law_second) (defBody s_law_second) (defScope s_law_second) .none kV_law_second dc_law_second pm_law_second an_law_second cd_law_second ct_law_second), sl_law_second⟩)
  (cd2_law_second : PySem.W.codeIn K cd_law_second "_law_second" = true)
  (kp_law_second : PySem.W.keepIn K (.ref f_law_second) = true)
  (l_law : K.lookup f_law = some ⟨oc_law, od_law, .func (PySem.W.fnOf "law" "law" (defArgs s_law) (defBody s_law) (defScope s_law) .none kV_law dc_law pm_law an_law cd_law ct_law), sl_law⟩)
  (cd2_law : PySem.W.codeIn K cd_law "law" = true)
  (kp_law : PySem.W.keepIn K (.ref f_law) = true)
  (z_LookupError : PySem.W.nsIn K mainGlobals "LookupError" = some none)
  (z_RuntimeError : PySem.W.nsIn K mainGlobals "RuntimeError" = some none)
  (z_ValueError : PySem.W.nsIn K mainGlobals "ValueError" = some none)
  (z_ZeroDivisionError : PySem.W.nsIn K mainGlobals "ZeroDivisionError" = some none)
  (z_abs : PySem.W.nsIn K mainGlobals "abs" = some none)
  (z_bool : PySem.W.nsIn K mainGlobals "bool" = some none)
  (z_int : PySem.W.nsIn K mainGlobals "int" = some none)
  (z_isinstance : PySem.W.nsIn K mainGlobals "isinstance" = some none)
  (z_len : PySem.W.nsIn K mainGlobals "len" = some none)
  (z_list : PySem.W.nsIn K mainGlobals "list" = some none)
  (z_range : PySem.W.nsIn K mainGlobals "range" = some none)
  (xl_CountsheldError : K.lookup c_CountsheldError = some (excClassObj enm_CountsheldError eq_CountsheldError c_CountsheldError eN_CountsheldError ebs_CountsheldError [.type "ValueError", .type "Exception", .type "BaseException", .type "object"] true esn_CountsheldError esub_CountsheldError eab_CountsheldError ecol_CountsheldError edd_CountsheldError ek0_CountsheldError ek1_CountsheldError ek2_CountsheldError ek3_CountsheldError ek5_CountsheldError "ValueError.__new__"))
  (xr_CountsheldError : PySem.HandSPX.refsVE [.type "ValueError", .type "Exception", .type "BaseException", .type "object"] = true)
  (xk_CountsheldError : PySem.W.keepIn K (.ref c_CountsheldError) = true)
  (xb_CountsheldError : PySem.W.subIn K (.ref c_CountsheldError) (.type "BaseException") = some true)
  (xq_CountsheldError : PySem.W.excIn K c_CountsheldError [.type "ValueError", .type "Exception", .type "BaseException", .type "object"] "ValueError.__new__" = true)
  (xl_NotKept : K.lookup c_NotKept = some (excClassObj enm_NotKept eq_NotKept c_NotKept eN_NotKept ebs_NotKept [.ref c_CountsheldError, .type "ValueError", .type "Exception", .type "BaseException", .type "object"] true esn_NotKept esub_NotKept eab_NotKept ecol_NotKept edd_NotKept ek0_NotKept ek1_NotKept ek2_NotKept ek3_NotKept ek5_NotKept "ValueError.__new__"))
  (xr_NotKept : PySem.HandSPX.refsVE [.ref c_CountsheldError, .type "ValueError", .type "Exception", .type "BaseException", .type "object"] = true)
  (xk_NotKept : PySem.W.keepIn K (.ref c_NotKept) = true)
  (xb_NotKept : PySem.W.subIn K (.ref c_NotKept) (.type "BaseException") = some true)
  (xq_NotKept : PySem.W.excIn K c_NotKept [.type "ValueError", .type "Exception", .type "BaseException", .type "object"] "ValueError.__new__" = true)
  (xl_Unfit : K.lookup c_Unfit = some (excClassObj enm_Unfit eq_Unfit c_Unfit eN_Unfit ebs_Unfit [.ref c_CountsheldError, .type "ValueError", .type "Exception", .type "BaseException", .type "object"] true esn_Unfit esub_Unfit eab_Unfit ecol_Unfit edd_Unfit ek0_Unfit ek1_Unfit ek2_Unfit ek3_Unfit ek5_Unfit "ValueError.__new__"))
  (xr_Unfit : PySem.HandSPX.refsVE [.ref c_CountsheldError, .type "ValueError", .type "Exception", .type "BaseException", .type "object"] = true)
  (xs_Unfit : PySem.W.findIn K (.ref c_Unfit) "__setattr__" = some (some (.builtin "object.__setattr__")))
  (xb_Unfit : PySem.W.subIn K (.ref c_Unfit) (.type "BaseException") = some true)
  (xt_Unfit : PySem.W.typeIn K (.ref c_Unfit) = some (.type "type"))
  (xk_Unfit : PySem.W.keepIn K (.ref c_Unfit) = true)
  (xi_Unfit : PySem.W.typeIn K (.ref f_Unfit___init__) = some (.type "function"))
  (xn_Unfit_door : PySem.W.findIn K (.ref c_Unfit) "door" = some none)
  (xn_Unfit_line : PySem.W.findIn K (.ref c_Unfit) "line" = some none)
  (xl_Refused : K.lookup c_Refused = some (excClassObj enm_Refused eq_Refused c_Refused eN_Refused ebs_Refused [.type "RuntimeError", .type "Exception", .type "BaseException", .type "object"] true esn_Refused esub_Refused eab_Refused ecol_Refused edd_Refused ek0_Refused ek1_Refused ek2_Refused ek3_Refused ek5_Refused "RuntimeError.__new__"))
  (xs_Refused : PySem.W.findIn K (.ref c_Refused) "__setattr__" = some (some (.builtin "object.__setattr__")))
  (xb_Refused : PySem.W.subIn K (.ref c_Refused) (.type "BaseException") = some true)
  (xt_Refused : PySem.W.typeIn K (.ref c_Refused) = some (.type "type"))
  (xk_Refused : PySem.W.keepIn K (.ref c_Refused) = true)
  (xi_Refused : PySem.W.typeIn K (.ref f_Refused___init__) = some (.type "function"))
  (xn_Refused_door : PySem.W.findIn K (.ref c_Refused) "door" = some none)
  (xn_Refused_line : PySem.W.findIn K (.ref c_Refused) "line" = some none)
  (xn_Refused_why : PySem.W.findIn K (.ref c_Refused) "why" = some none)
  (xl_BadWord : K.lookup c_BadWord = some (excClassObj enm_BadWord eq_BadWord c_BadWord eN_BadWord ebs_BadWord [.ref c_CountsheldError, .type "ValueError", .type "Exception", .type "BaseException", .type "object"] true esn_BadWord esub_BadWord eab_BadWord ecol_BadWord edd_BadWord ek0_BadWord ek1_BadWord ek2_BadWord ek3_BadWord ek5_BadWord "ValueError.__new__"))
  (xr_BadWord : PySem.HandSPX.refsVE [.ref c_CountsheldError, .type "ValueError", .type "Exception", .type "BaseException", .type "object"] = true)
  (xs_BadWord : PySem.W.findIn K (.ref c_BadWord) "__setattr__" = some (some (.builtin "object.__setattr__")))
  (xb_BadWord : PySem.W.subIn K (.ref c_BadWord) (.type "BaseException") = some true)
  (xt_BadWord : PySem.W.typeIn K (.ref c_BadWord) = some (.type "type"))
  (xk_BadWord : PySem.W.keepIn K (.ref c_BadWord) = true)
  (xi_BadWord : PySem.W.typeIn K (.ref f_BadWord___init__) = some (.type "function"))
  (xn_BadWord_word : PySem.W.findIn K (.ref c_BadWord) "word" = some none)
  (xl_BadNumber : K.lookup c_BadNumber = some (excClassObj enm_BadNumber eq_BadNumber c_BadNumber eN_BadNumber ebs_BadNumber [.ref c_CountsheldError, .type "ValueError", .type "Exception", .type "BaseException", .type "object"] true esn_BadNumber esub_BadNumber eab_BadNumber ecol_BadNumber edd_BadNumber ek0_BadNumber ek1_BadNumber ek2_BadNumber ek3_BadNumber ek5_BadNumber "ValueError.__new__"))
  (xr_BadNumber : PySem.HandSPX.refsVE [.ref c_CountsheldError, .type "ValueError", .type "Exception", .type "BaseException", .type "object"] = true)
  (xs_BadNumber : PySem.W.findIn K (.ref c_BadNumber) "__setattr__" = some (some (.builtin "object.__setattr__")))
  (xb_BadNumber : PySem.W.subIn K (.ref c_BadNumber) (.type "BaseException") = some true)
  (xt_BadNumber : PySem.W.typeIn K (.ref c_BadNumber) = some (.type "type"))
  (xk_BadNumber : PySem.W.keepIn K (.ref c_BadNumber) = true)
  (xi_BadNumber : PySem.W.typeIn K (.ref f_BadNumber___init__) = some (.type "function"))
  (xn_BadNumber_number : PySem.W.findIn K (.ref c_BadNumber) "number" = some none)
  (xl_BadCounts : K.lookup c_BadCounts = some (excClassObj enm_BadCounts eq_BadCounts c_BadCounts eN_BadCounts ebs_BadCounts [.ref c_CountsheldError, .type "ValueError", .type "Exception", .type "BaseException", .type "object"] true esn_BadCounts esub_BadCounts eab_BadCounts ecol_BadCounts edd_BadCounts ek0_BadCounts ek1_BadCounts ek2_BadCounts ek3_BadCounts ek5_BadCounts "ValueError.__new__"))
  (xr_BadCounts : PySem.HandSPX.refsVE [.ref c_CountsheldError, .type "ValueError", .type "Exception", .type "BaseException", .type "object"] = true)
  (xs_BadCounts : PySem.W.findIn K (.ref c_BadCounts) "__setattr__" = some (some (.builtin "object.__setattr__")))
  (xb_BadCounts : PySem.W.subIn K (.ref c_BadCounts) (.type "BaseException") = some true)
  (xt_BadCounts : PySem.W.typeIn K (.ref c_BadCounts) = some (.type "type"))
  (xk_BadCounts : PySem.W.keepIn K (.ref c_BadCounts) = true)
  (xi_BadCounts : PySem.W.typeIn K (.ref f_BadCounts___init__) = some (.type "function"))
  (xn_BadCounts_at : PySem.W.findIn K (.ref c_BadCounts) "at" = some none)
  (xl_BadRule : K.lookup c_BadRule = some (excClassObj enm_BadRule eq_BadRule c_BadRule eN_BadRule ebs_BadRule [.ref c_CountsheldError, .type "ValueError", .type "Exception", .type "BaseException", .type "object"] true esn_BadRule esub_BadRule eab_BadRule ecol_BadRule edd_BadRule ek0_BadRule ek1_BadRule ek2_BadRule ek3_BadRule ek5_BadRule "ValueError.__new__"))
  (xr_BadRule : PySem.HandSPX.refsVE [.ref c_CountsheldError, .type "ValueError", .type "Exception", .type "BaseException", .type "object"] = true)
  (xs_BadRule : PySem.W.findIn K (.ref c_BadRule) "__setattr__" = some (some (.builtin "object.__setattr__")))
  (xb_BadRule : PySem.W.subIn K (.ref c_BadRule) (.type "BaseException") = some true)
  (xt_BadRule : PySem.W.typeIn K (.ref c_BadRule) = some (.type "type"))
  (xk_BadRule : PySem.W.keepIn K (.ref c_BadRule) = true)
  (xi_BadRule : PySem.W.typeIn K (.ref f_BadRule___init__) = some (.type "function"))
  (xn_BadRule_what : PySem.W.findIn K (.ref c_BadRule) "what" = some none)
  (xl_BadRules : K.lookup c_BadRules = some (excClassObj enm_BadRules eq_BadRules c_BadRules eN_BadRules ebs_BadRules [.ref c_CountsheldError, .type "ValueError", .type "Exception", .type "BaseException", .type "object"] true esn_BadRules esub_BadRules eab_BadRules ecol_BadRules edd_BadRules ek0_BadRules ek1_BadRules ek2_BadRules ek3_BadRules ek5_BadRules "ValueError.__new__"))
  (xr_BadRules : PySem.HandSPX.refsVE [.ref c_CountsheldError, .type "ValueError", .type "Exception", .type "BaseException", .type "object"] = true)
  (xs_BadRules : PySem.W.findIn K (.ref c_BadRules) "__setattr__" = some (some (.builtin "object.__setattr__")))
  (xb_BadRules : PySem.W.subIn K (.ref c_BadRules) (.type "BaseException") = some true)
  (xt_BadRules : PySem.W.typeIn K (.ref c_BadRules) = some (.type "type"))
  (xk_BadRules : PySem.W.keepIn K (.ref c_BadRules) = true)
  (xi_BadRules : PySem.W.typeIn K (.ref f_BadRules___init__) = some (.type "function"))
  (xn_BadRules_what : PySem.W.findIn K (.ref c_BadRules) "what" = some none)
  (xl_BadDoor : K.lookup c_BadDoor = some (excClassObj enm_BadDoor eq_BadDoor c_BadDoor eN_BadDoor ebs_BadDoor [.ref c_CountsheldError, .type "ValueError", .type "Exception", .type "BaseException", .type "object"] true esn_BadDoor esub_BadDoor eab_BadDoor ecol_BadDoor edd_BadDoor ek0_BadDoor ek1_BadDoor ek2_BadDoor ek3_BadDoor ek5_BadDoor "ValueError.__new__"))
  (xr_BadDoor : PySem.HandSPX.refsVE [.ref c_CountsheldError, .type "ValueError", .type "Exception", .type "BaseException", .type "object"] = true)
  (xs_BadDoor : PySem.W.findIn K (.ref c_BadDoor) "__setattr__" = some (some (.builtin "object.__setattr__")))
  (xb_BadDoor : PySem.W.subIn K (.ref c_BadDoor) (.type "BaseException") = some true)
  (xt_BadDoor : PySem.W.typeIn K (.ref c_BadDoor) = some (.type "type"))
  (xk_BadDoor : PySem.W.keepIn K (.ref c_BadDoor) = true)
  (xi_BadDoor : PySem.W.typeIn K (.ref f_BadDoor___init__) = some (.type "function"))
  (xn_BadDoor_at : PySem.W.findIn K (.ref c_BadDoor) "at" = some none)
  (xl_BadDesk : K.lookup c_BadDesk = some (excClassObj enm_BadDesk eq_BadDesk c_BadDesk eN_BadDesk ebs_BadDesk [.ref c_CountsheldError, .type "ValueError", .type "Exception", .type "BaseException", .type "object"] true esn_BadDesk esub_BadDesk eab_BadDesk ecol_BadDesk edd_BadDesk ek0_BadDesk ek1_BadDesk ek2_BadDesk ek3_BadDesk ek5_BadDesk "ValueError.__new__"))
  (xr_BadDesk : PySem.HandSPX.refsVE [.ref c_CountsheldError, .type "ValueError", .type "Exception", .type "BaseException", .type "object"] = true)
  (xs_BadDesk : PySem.W.findIn K (.ref c_BadDesk) "__setattr__" = some (some (.builtin "object.__setattr__")))
  (xb_BadDesk : PySem.W.subIn K (.ref c_BadDesk) (.type "BaseException") = some true)
  (xt_BadDesk : PySem.W.typeIn K (.ref c_BadDesk) = some (.type "type"))
  (xk_BadDesk : PySem.W.keepIn K (.ref c_BadDesk) = true)
  (xi_BadDesk : PySem.W.typeIn K (.ref f_BadDesk___init__) = some (.type "function"))
  (xn_BadDesk_what : PySem.W.findIn K (.ref c_BadDesk) "what" = some none)
  (xl_BadText : K.lookup c_BadText = some (excClassObj enm_BadText eq_BadText c_BadText eN_BadText ebs_BadText [.ref c_CountsheldError, .type "ValueError", .type "Exception", .type "BaseException", .type "object"] true esn_BadText esub_BadText eab_BadText ecol_BadText edd_BadText ek0_BadText ek1_BadText ek2_BadText ek3_BadText ek5_BadText "ValueError.__new__"))
  (xr_BadText : PySem.HandSPX.refsVE [.ref c_CountsheldError, .type "ValueError", .type "Exception", .type "BaseException", .type "object"] = true)
  (xs_BadText : PySem.W.findIn K (.ref c_BadText) "__setattr__" = some (some (.builtin "object.__setattr__")))
  (xb_BadText : PySem.W.subIn K (.ref c_BadText) (.type "BaseException") = some true)
  (xt_BadText : PySem.W.typeIn K (.ref c_BadText) = some (.type "type"))
  (xk_BadText : PySem.W.keepIn K (.ref c_BadText) = true)
  (xi_BadText : PySem.W.typeIn K (.ref f_BadText___init__) = some (.type "function"))
  (xn_BadText_at : PySem.W.findIn K (.ref c_BadText) "at" = some none)
  (xl_NotLoose : K.lookup c_NotLoose = some (excClassObj enm_NotLoose eq_NotLoose c_NotLoose eN_NotLoose ebs_NotLoose [.ref c_CountsheldError, .type "ValueError", .type "Exception", .type "BaseException", .type "object"] true esn_NotLoose esub_NotLoose eab_NotLoose ecol_NotLoose edd_NotLoose ek0_NotLoose ek1_NotLoose ek2_NotLoose ek3_NotLoose ek5_NotLoose "ValueError.__new__"))
  (xr_NotLoose : PySem.HandSPX.refsVE [.ref c_CountsheldError, .type "ValueError", .type "Exception", .type "BaseException", .type "object"] = true)
  (xs_NotLoose : PySem.W.findIn K (.ref c_NotLoose) "__setattr__" = some (some (.builtin "object.__setattr__")))
  (xb_NotLoose : PySem.W.subIn K (.ref c_NotLoose) (.type "BaseException") = some true)
  (xt_NotLoose : PySem.W.typeIn K (.ref c_NotLoose) = some (.type "type"))
  (xk_NotLoose : PySem.W.keepIn K (.ref c_NotLoose) = true)
  (xi_NotLoose : PySem.W.typeIn K (.ref f_NotLoose___init__) = some (.type "function"))
  (xn_NotLoose_kind : PySem.W.findIn K (.ref c_NotLoose) "kind" = some none)
  (xl_Named : K.lookup c_Named = some (excClassObj enm_Named eq_Named c_Named eN_Named ebs_Named [.ref c_CountsheldError, .type "ValueError", .type "Exception", .type "BaseException", .type "object"] true esn_Named esub_Named eab_Named ecol_Named edd_Named ek0_Named ek1_Named ek2_Named ek3_Named ek5_Named "ValueError.__new__"))
  (xr_Named : PySem.HandSPX.refsVE [.ref c_CountsheldError, .type "ValueError", .type "Exception", .type "BaseException", .type "object"] = true)
  (xs_Named : PySem.W.findIn K (.ref c_Named) "__setattr__" = some (some (.builtin "object.__setattr__")))
  (xb_Named : PySem.W.subIn K (.ref c_Named) (.type "BaseException") = some true)
  (xt_Named : PySem.W.typeIn K (.ref c_Named) = some (.type "type"))
  (xk_Named : PySem.W.keepIn K (.ref c_Named) = true)
  (xi_Named : PySem.W.typeIn K (.ref f_Named___init__) = some (.type "function"))
  (xn_Named_row : PySem.W.findIn K (.ref c_Named) "row" = some none)
  (xl_Full : K.lookup c_Full = some (excClassObj enm_Full eq_Full c_Full eN_Full ebs_Full [.ref c_CountsheldError, .type "ValueError", .type "Exception", .type "BaseException", .type "object"] true esn_Full esub_Full eab_Full ecol_Full edd_Full ek0_Full ek1_Full ek2_Full ek3_Full ek5_Full "ValueError.__new__"))
  (xr_Full : PySem.HandSPX.refsVE [.ref c_CountsheldError, .type "ValueError", .type "Exception", .type "BaseException", .type "object"] = true)
  (xs_Full : PySem.W.findIn K (.ref c_Full) "__setattr__" = some (some (.builtin "object.__setattr__")))
  (xb_Full : PySem.W.subIn K (.ref c_Full) (.type "BaseException") = some true)
  (xt_Full : PySem.W.typeIn K (.ref c_Full) = some (.type "type"))
  (xk_Full : PySem.W.keepIn K (.ref c_Full) = true)
  (xi_Full : PySem.W.typeIn K (.ref f_Full___init__) = some (.type "function"))
  (xn_Full_owner : PySem.W.findIn K (.ref c_Full) "owner" = some none)
  (xl_NoPick : K.lookup c_NoPick = some (excClassObj enm_NoPick eq_NoPick c_NoPick eN_NoPick ebs_NoPick [.ref c_CountsheldError, .type "ValueError", .type "Exception", .type "BaseException", .type "object"] true esn_NoPick esub_NoPick eab_NoPick ecol_NoPick edd_NoPick ek0_NoPick ek1_NoPick ek2_NoPick ek3_NoPick ek5_NoPick "ValueError.__new__"))
  (xr_NoPick : PySem.HandSPX.refsVE [.ref c_CountsheldError, .type "ValueError", .type "Exception", .type "BaseException", .type "object"] = true)
  (xs_NoPick : PySem.W.findIn K (.ref c_NoPick) "__setattr__" = some (some (.builtin "object.__setattr__")))
  (xb_NoPick : PySem.W.subIn K (.ref c_NoPick) (.type "BaseException") = some true)
  (xt_NoPick : PySem.W.typeIn K (.ref c_NoPick) = some (.type "type"))
  (xk_NoPick : PySem.W.keepIn K (.ref c_NoPick) = true)
  (xi_NoPick : PySem.W.typeIn K (.ref f_NoPick___init__) = some (.type "function"))
  (xn_NoPick_pick : PySem.W.findIn K (.ref c_NoPick) "pick" = some none)
  (xl_Broken : K.lookup c_Broken = some (excClassObj enm_Broken eq_Broken c_Broken eN_Broken ebs_Broken [.ref c_CountsheldError, .type "ValueError", .type "Exception", .type "BaseException", .type "object"] true esn_Broken esub_Broken eab_Broken ecol_Broken edd_Broken ek0_Broken ek1_Broken ek2_Broken ek3_Broken ek5_Broken "ValueError.__new__"))
  (xr_Broken : PySem.HandSPX.refsVE [.ref c_CountsheldError, .type "ValueError", .type "Exception", .type "BaseException", .type "object"] = true)
  (xs_Broken : PySem.W.findIn K (.ref c_Broken) "__setattr__" = some (some (.builtin "object.__setattr__")))
  (xb_Broken : PySem.W.subIn K (.ref c_Broken) (.type "BaseException") = some true)
  (xt_Broken : PySem.W.typeIn K (.ref c_Broken) = some (.type "type"))
  (xk_Broken : PySem.W.keepIn K (.ref c_Broken) = true)
  (xi_Broken : PySem.W.typeIn K (.ref f_Broken___init__) = some (.type "function"))
  (xn_Broken_rules : PySem.W.findIn K (.ref c_Broken) "rules" = some none)
  (xl_BadHistory : K.lookup c_BadHistory = some (excClassObj enm_BadHistory eq_BadHistory c_BadHistory eN_BadHistory ebs_BadHistory [.ref c_CountsheldError, .type "ValueError", .type "Exception", .type "BaseException", .type "object"] true esn_BadHistory esub_BadHistory eab_BadHistory ecol_BadHistory edd_BadHistory ek0_BadHistory ek1_BadHistory ek2_BadHistory ek3_BadHistory ek5_BadHistory "ValueError.__new__"))
  (xr_BadHistory : PySem.HandSPX.refsVE [.ref c_CountsheldError, .type "ValueError", .type "Exception", .type "BaseException", .type "object"] = true)
  (xs_BadHistory : PySem.W.findIn K (.ref c_BadHistory) "__setattr__" = some (some (.builtin "object.__setattr__")))
  (xb_BadHistory : PySem.W.subIn K (.ref c_BadHistory) (.type "BaseException") = some true)
  (xt_BadHistory : PySem.W.typeIn K (.ref c_BadHistory) = some (.type "type"))
  (xk_BadHistory : PySem.W.keepIn K (.ref c_BadHistory) = true)
  (xi_BadHistory : PySem.W.typeIn K (.ref f_BadHistory___init__) = some (.type "function"))
  (xn_BadHistory_at : PySem.W.findIn K (.ref c_BadHistory) "at" = some none)
  (xl_BadStanding : K.lookup c_BadStanding = some (excClassObj enm_BadStanding eq_BadStanding c_BadStanding eN_BadStanding ebs_BadStanding [.ref c_CountsheldError, .type "ValueError", .type "Exception", .type "BaseException", .type "object"] true esn_BadStanding esub_BadStanding eab_BadStanding ecol_BadStanding edd_BadStanding ek0_BadStanding ek1_BadStanding ek2_BadStanding ek3_BadStanding ek5_BadStanding "ValueError.__new__"))
  (xr_BadStanding : PySem.HandSPX.refsVE [.ref c_CountsheldError, .type "ValueError", .type "Exception", .type "BaseException", .type "object"] = true)
  (xs_BadStanding : PySem.W.findIn K (.ref c_BadStanding) "__setattr__" = some (some (.builtin "object.__setattr__")))
  (xb_BadStanding : PySem.W.subIn K (.ref c_BadStanding) (.type "BaseException") = some true)
  (xt_BadStanding : PySem.W.typeIn K (.ref c_BadStanding) = some (.type "type"))
  (xk_BadStanding : PySem.W.keepIn K (.ref c_BadStanding) = true)
  (xi_BadStanding : PySem.W.typeIn K (.ref f_BadStanding___init__) = some (.type "function"))
  (xn_BadStanding_standing : PySem.W.findIn K (.ref c_BadStanding) "standing" = some none)
  (xl_BadWay : K.lookup c_BadWay = some (excClassObj enm_BadWay eq_BadWay c_BadWay eN_BadWay ebs_BadWay [.ref c_CountsheldError, .type "ValueError", .type "Exception", .type "BaseException", .type "object"] true esn_BadWay esub_BadWay eab_BadWay ecol_BadWay edd_BadWay ek0_BadWay ek1_BadWay ek2_BadWay ek3_BadWay ek5_BadWay "ValueError.__new__"))
  (xr_BadWay : PySem.HandSPX.refsVE [.ref c_CountsheldError, .type "ValueError", .type "Exception", .type "BaseException", .type "object"] = true)
  (xs_BadWay : PySem.W.findIn K (.ref c_BadWay) "__setattr__" = some (some (.builtin "object.__setattr__")))
  (xb_BadWay : PySem.W.subIn K (.ref c_BadWay) (.type "BaseException") = some true)
  (xt_BadWay : PySem.W.typeIn K (.ref c_BadWay) = some (.type "type"))
  (xk_BadWay : PySem.W.keepIn K (.ref c_BadWay) = true)
  (xi_BadWay : PySem.W.typeIn K (.ref f_BadWay___init__) = some (.type "function"))
  (xn_BadWay_at : PySem.W.findIn K (.ref c_BadWay) "at" = some none)
  (xl_NoWay : K.lookup c_NoWay = some (excClassObj enm_NoWay eq_NoWay c_NoWay eN_NoWay ebs_NoWay [.ref c_CountsheldError, .type "ValueError", .type "Exception", .type "BaseException", .type "object"] true esn_NoWay esub_NoWay eab_NoWay ecol_NoWay edd_NoWay ek0_NoWay ek1_NoWay ek2_NoWay ek3_NoWay ek5_NoWay "ValueError.__new__"))
  (xr_NoWay : PySem.HandSPX.refsVE [.ref c_CountsheldError, .type "ValueError", .type "Exception", .type "BaseException", .type "object"] = true)
  (xs_NoWay : PySem.W.findIn K (.ref c_NoWay) "__setattr__" = some (some (.builtin "object.__setattr__")))
  (xb_NoWay : PySem.W.subIn K (.ref c_NoWay) (.type "BaseException") = some true)
  (xt_NoWay : PySem.W.typeIn K (.ref c_NoWay) = some (.type "type"))
  (xk_NoWay : PySem.W.keepIn K (.ref c_NoWay) = true)
  (xi_NoWay : PySem.W.typeIn K (.ref f_NoWay___init__) = some (.type "function"))
  (xn_NoWay_standing : PySem.W.findIn K (.ref c_NoWay) "standing" = some none)
  (xl_TooMany : K.lookup c_TooMany = some (excClassObj enm_TooMany eq_TooMany c_TooMany eN_TooMany ebs_TooMany [.ref c_CountsheldError, .type "ValueError", .type "Exception", .type "BaseException", .type "object"] true esn_TooMany esub_TooMany eab_TooMany ecol_TooMany edd_TooMany ek0_TooMany ek1_TooMany ek2_TooMany ek3_TooMany ek5_TooMany "ValueError.__new__"))
  (xr_TooMany : PySem.HandSPX.refsVE [.ref c_CountsheldError, .type "ValueError", .type "Exception", .type "BaseException", .type "object"] = true)
  (xs_TooMany : PySem.W.findIn K (.ref c_TooMany) "__setattr__" = some (some (.builtin "object.__setattr__")))
  (xb_TooMany : PySem.W.subIn K (.ref c_TooMany) (.type "BaseException") = some true)
  (xt_TooMany : PySem.W.typeIn K (.ref c_TooMany) = some (.type "type"))
  (xk_TooMany : PySem.W.keepIn K (.ref c_TooMany) = true)
  (xi_TooMany : PySem.W.typeIn K (.ref f_TooMany___init__) = some (.type "function"))
  (xn_TooMany_what : PySem.W.findIn K (.ref c_TooMany) "what" = some none)
  (xl_NoDoor : K.lookup c_NoDoor = some (excClassObj enm_NoDoor eq_NoDoor c_NoDoor eN_NoDoor ebs_NoDoor [.type "LookupError", .type "Exception", .type "BaseException", .type "object"] true esn_NoDoor esub_NoDoor eab_NoDoor ecol_NoDoor edd_NoDoor ek0_NoDoor ek1_NoDoor ek2_NoDoor ek3_NoDoor ek5_NoDoor "LookupError.__new__"))
  (xs_NoDoor : PySem.W.findIn K (.ref c_NoDoor) "__setattr__" = some (some (.builtin "object.__setattr__")))
  (xb_NoDoor : PySem.W.subIn K (.ref c_NoDoor) (.type "BaseException") = some true)
  (xt_NoDoor : PySem.W.typeIn K (.ref c_NoDoor) = some (.type "type"))
  (xk_NoDoor : PySem.W.keepIn K (.ref c_NoDoor) = true)
  (xi_NoDoor : PySem.W.typeIn K (.ref f_NoDoor___init__) = some (.type "function"))
  (xn_NoDoor_name : PySem.W.findIn K (.ref c_NoDoor) "name" = some none)
  (xl_NoBegin : K.lookup c_NoBegin = some (excClassObj enm_NoBegin eq_NoBegin c_NoBegin eN_NoBegin ebs_NoBegin [.type "LookupError", .type "Exception", .type "BaseException", .type "object"] true esn_NoBegin esub_NoBegin eab_NoBegin ecol_NoBegin edd_NoBegin ek0_NoBegin ek1_NoBegin ek2_NoBegin ek3_NoBegin ek5_NoBegin "LookupError.__new__"))
  (xs_NoBegin : PySem.W.findIn K (.ref c_NoBegin) "__setattr__" = some (some (.builtin "object.__setattr__")))
  (xb_NoBegin : PySem.W.subIn K (.ref c_NoBegin) (.type "BaseException") = some true)
  (xt_NoBegin : PySem.W.typeIn K (.ref c_NoBegin) = some (.type "type"))
  (xk_NoBegin : PySem.W.keepIn K (.ref c_NoBegin) = true)
  (xi_NoBegin : PySem.W.typeIn K (.ref f_NoBegin___init__) = some (.type "function"))
  (xn_NoBegin_index : PySem.W.findIn K (.ref c_NoBegin) "index" = some none)
  (xl_NoOwner : K.lookup c_NoOwner = some (excClassObj enm_NoOwner eq_NoOwner c_NoOwner eN_NoOwner ebs_NoOwner [.type "LookupError", .type "Exception", .type "BaseException", .type "object"] true esn_NoOwner esub_NoOwner eab_NoOwner ecol_NoOwner edd_NoOwner ek0_NoOwner ek1_NoOwner ek2_NoOwner ek3_NoOwner ek5_NoOwner "LookupError.__new__"))
  (xs_NoOwner : PySem.W.findIn K (.ref c_NoOwner) "__setattr__" = some (some (.builtin "object.__setattr__")))
  (xb_NoOwner : PySem.W.subIn K (.ref c_NoOwner) (.type "BaseException") = some true)
  (xt_NoOwner : PySem.W.typeIn K (.ref c_NoOwner) = some (.type "type"))
  (xk_NoOwner : PySem.W.keepIn K (.ref c_NoOwner) = true)
  (xi_NoOwner : PySem.W.typeIn K (.ref f_NoOwner___init__) = some (.type "function"))
  (xn_NoOwner_owner : PySem.W.findIn K (.ref c_NoOwner) "owner" = some none)
  (xl_NoRow : K.lookup c_NoRow = some (excClassObj enm_NoRow eq_NoRow c_NoRow eN_NoRow ebs_NoRow [.type "LookupError", .type "Exception", .type "BaseException", .type "object"] true esn_NoRow esub_NoRow eab_NoRow ecol_NoRow edd_NoRow ek0_NoRow ek1_NoRow ek2_NoRow ek3_NoRow ek5_NoRow "LookupError.__new__"))
  (xs_NoRow : PySem.W.findIn K (.ref c_NoRow) "__setattr__" = some (some (.builtin "object.__setattr__")))
  (xb_NoRow : PySem.W.subIn K (.ref c_NoRow) (.type "BaseException") = some true)
  (xt_NoRow : PySem.W.typeIn K (.ref c_NoRow) = some (.type "type"))
  (xk_NoRow : PySem.W.keepIn K (.ref c_NoRow) = true)
  (xi_NoRow : PySem.W.typeIn K (.ref f_NoRow___init__) = some (.type "function"))
  (xn_NoRow_row : PySem.W.findIn K (.ref c_NoRow) "row" = some none)
  (xl_NoRule : K.lookup c_NoRule = some (excClassObj enm_NoRule eq_NoRule c_NoRule eN_NoRule ebs_NoRule [.type "LookupError", .type "Exception", .type "BaseException", .type "object"] true esn_NoRule esub_NoRule eab_NoRule ecol_NoRule edd_NoRule ek0_NoRule ek1_NoRule ek2_NoRule ek3_NoRule ek5_NoRule "LookupError.__new__"))
  (xs_NoRule : PySem.W.findIn K (.ref c_NoRule) "__setattr__" = some (some (.builtin "object.__setattr__")))
  (xb_NoRule : PySem.W.subIn K (.ref c_NoRule) (.type "BaseException") = some true)
  (xt_NoRule : PySem.W.typeIn K (.ref c_NoRule) = some (.type "type"))
  (xk_NoRule : PySem.W.keepIn K (.ref c_NoRule) = true)
  (xi_NoRule : PySem.W.typeIn K (.ref f_NoRule___init__) = some (.type "function"))
  (xn_NoRule_rule : PySem.W.findIn K (.ref c_NoRule) "rule" = some none)
  (xl_NoDivisor : K.lookup c_NoDivisor = some (excClassObj enm_NoDivisor eq_NoDivisor c_NoDivisor eN_NoDivisor ebs_NoDivisor [.type "ZeroDivisionError", .type "ArithmeticError", .type "Exception", .type "BaseException", .type "object"] true esn_NoDivisor esub_NoDivisor eab_NoDivisor ecol_NoDivisor edd_NoDivisor ek0_NoDivisor ek1_NoDivisor ek2_NoDivisor ek3_NoDivisor ek5_NoDivisor "ZeroDivisionError.__new__"))
  (xs_NoDivisor : PySem.W.findIn K (.ref c_NoDivisor) "__setattr__" = some (some (.builtin "object.__setattr__")))
  (xb_NoDivisor : PySem.W.subIn K (.ref c_NoDivisor) (.type "BaseException") = some true)
  (xt_NoDivisor : PySem.W.typeIn K (.ref c_NoDivisor) = some (.type "type"))
  (xk_NoDivisor : PySem.W.keepIn K (.ref c_NoDivisor) = true)
  (xi_NoDivisor : PySem.W.typeIn K (.ref f_NoDivisor___init__) = some (.type "function"))
  (xn_NoDivisor_word : PySem.W.findIn K (.ref c_NoDivisor) "word" = some none)
  (xl_Waits : K.lookup c_Waits = some (excClassObj enm_Waits eq_Waits c_Waits eN_Waits ebs_Waits [.type "RuntimeError", .type "Exception", .type "BaseException", .type "object"] true esn_Waits esub_Waits eab_Waits ecol_Waits edd_Waits ek0_Waits ek1_Waits ek2_Waits ek3_Waits ek5_Waits "RuntimeError.__new__"))
  (xs_Waits : PySem.W.findIn K (.ref c_Waits) "__setattr__" = some (some (.builtin "object.__setattr__")))
  (xb_Waits : PySem.W.subIn K (.ref c_Waits) (.type "BaseException") = some true)
  (xt_Waits : PySem.W.typeIn K (.ref c_Waits) = some (.type "type"))
  (xk_Waits : PySem.W.keepIn K (.ref c_Waits) = true)
  (xi_Waits : PySem.W.typeIn K (.ref f_Waits___init__) = some (.type "function"))
  (xn_Waits_owner : PySem.W.findIn K (.ref c_Waits) "owner" = some none)
  (xl_Over : K.lookup c_Over = some (excClassObj enm_Over eq_Over c_Over eN_Over ebs_Over [.type "RuntimeError", .type "Exception", .type "BaseException", .type "object"] true esn_Over esub_Over eab_Over ecol_Over edd_Over ek0_Over ek1_Over ek2_Over ek3_Over ek5_Over "RuntimeError.__new__"))
  (xs_Over : PySem.W.findIn K (.ref c_Over) "__setattr__" = some (some (.builtin "object.__setattr__")))
  (xb_Over : PySem.W.subIn K (.ref c_Over) (.type "BaseException") = some true)
  (xt_Over : PySem.W.typeIn K (.ref c_Over) = some (.type "type"))
  (xk_Over : PySem.W.keepIn K (.ref c_Over) = true)
  (xi_Over : PySem.W.typeIn K (.ref f_Over___init__) = some (.type "function"))
  (xn_Over_number : PySem.W.findIn K (.ref c_Over) "number" = some none)
  (xl_Busy : K.lookup c_Busy = some (excClassObj enm_Busy eq_Busy c_Busy eN_Busy ebs_Busy [.type "RuntimeError", .type "Exception", .type "BaseException", .type "object"] true esn_Busy esub_Busy eab_Busy ecol_Busy edd_Busy ek0_Busy ek1_Busy ek2_Busy ek3_Busy ek5_Busy "RuntimeError.__new__"))
  (xs_Busy : PySem.W.findIn K (.ref c_Busy) "__setattr__" = some (some (.builtin "object.__setattr__")))
  (xb_Busy : PySem.W.subIn K (.ref c_Busy) (.type "BaseException") = some true)
  (xt_Busy : PySem.W.typeIn K (.ref c_Busy) = some (.type "type"))
  (xk_Busy : PySem.W.keepIn K (.ref c_Busy) = true)
  (xi_Busy : PySem.W.typeIn K (.ref f_Busy___init__) = some (.type "function"))
  (xn_Busy_owner : PySem.W.findIn K (.ref c_Busy) "owner" = some none)
  (cnd : ([c_CountsheldError, c_BadWord, c_BadNumber, c_BadCounts, c_BadRule, c_BadRules, c_BadDoor, c_Unfit, c_BadDesk, c_BadText, c_NotLoose, c_Named, c_Full, c_NoPick, c_Broken, c_BadHistory, c_BadStanding, c_BadWay, c_NoWay, c_NotKept, c_TooMany, c_NoDoor, c_NoBegin, c_NoOwner, c_NoRow, c_NoRule, c_NoDivisor, c_Waits, c_Refused, c_Over, c_Busy] : List Addr).Nodup)
  (xg_Unfit : PySem.W.findIn K (.ref c_Unfit) "__getattribute__" = some (some (.builtin "BaseException.__getattribute__")))
  (xh_Unfit : PySem.W.findIn K (.ref c_Unfit) "__getattr__" = some none)
  (xd_Unfit : PySem.W.hasDictIn K c_Unfit = true)
  (xa_Unfit : PySem.W.findIn K (.ref c_Unfit) "__class__" = some (some (.builtin "object.__class__")))
  (xm_Unfit : PySem.W.mroIn K c_Unfit (.type "object") = some true)
  (xg_Refused : PySem.W.findIn K (.ref c_Refused) "__getattribute__" = some (some (.builtin "BaseException.__getattribute__")))
  (xh_Refused : PySem.W.findIn K (.ref c_Refused) "__getattr__" = some none)
  (xd_Refused : PySem.W.hasDictIn K c_Refused = true)
  (xa_Refused : PySem.W.findIn K (.ref c_Refused) "__class__" = some (some (.builtin "object.__class__")))
  (xm_Refused : PySem.W.mroIn K c_Refused (.type "object") = some true)
  (xg_BadWord : PySem.W.findIn K (.ref c_BadWord) "__getattribute__" = some (some (.builtin "BaseException.__getattribute__")))
  (xh_BadWord : PySem.W.findIn K (.ref c_BadWord) "__getattr__" = some none)
  (xd_BadWord : PySem.W.hasDictIn K c_BadWord = true)
  (xa_BadWord : PySem.W.findIn K (.ref c_BadWord) "__class__" = some (some (.builtin "object.__class__")))
  (xm_BadWord : PySem.W.mroIn K c_BadWord (.type "object") = some true)
  (xg_BadNumber : PySem.W.findIn K (.ref c_BadNumber) "__getattribute__" = some (some (.builtin "BaseException.__getattribute__")))
  (xh_BadNumber : PySem.W.findIn K (.ref c_BadNumber) "__getattr__" = some none)
  (xd_BadNumber : PySem.W.hasDictIn K c_BadNumber = true)
  (xa_BadNumber : PySem.W.findIn K (.ref c_BadNumber) "__class__" = some (some (.builtin "object.__class__")))
  (xm_BadNumber : PySem.W.mroIn K c_BadNumber (.type "object") = some true)
  (xg_BadCounts : PySem.W.findIn K (.ref c_BadCounts) "__getattribute__" = some (some (.builtin "BaseException.__getattribute__")))
  (xh_BadCounts : PySem.W.findIn K (.ref c_BadCounts) "__getattr__" = some none)
  (xd_BadCounts : PySem.W.hasDictIn K c_BadCounts = true)
  (xa_BadCounts : PySem.W.findIn K (.ref c_BadCounts) "__class__" = some (some (.builtin "object.__class__")))
  (xm_BadCounts : PySem.W.mroIn K c_BadCounts (.type "object") = some true)
  (xg_BadRule : PySem.W.findIn K (.ref c_BadRule) "__getattribute__" = some (some (.builtin "BaseException.__getattribute__")))
  (xh_BadRule : PySem.W.findIn K (.ref c_BadRule) "__getattr__" = some none)
  (xd_BadRule : PySem.W.hasDictIn K c_BadRule = true)
  (xa_BadRule : PySem.W.findIn K (.ref c_BadRule) "__class__" = some (some (.builtin "object.__class__")))
  (xm_BadRule : PySem.W.mroIn K c_BadRule (.type "object") = some true)
  (xg_BadRules : PySem.W.findIn K (.ref c_BadRules) "__getattribute__" = some (some (.builtin "BaseException.__getattribute__")))
  (xh_BadRules : PySem.W.findIn K (.ref c_BadRules) "__getattr__" = some none)
  (xd_BadRules : PySem.W.hasDictIn K c_BadRules = true)
  (xa_BadRules : PySem.W.findIn K (.ref c_BadRules) "__class__" = some (some (.builtin "object.__class__")))
  (xm_BadRules : PySem.W.mroIn K c_BadRules (.type "object") = some true)
  (xg_BadDoor : PySem.W.findIn K (.ref c_BadDoor) "__getattribute__" = some (some (.builtin "BaseException.__getattribute__")))
  (xh_BadDoor : PySem.W.findIn K (.ref c_BadDoor) "__getattr__" = some none)
  (xd_BadDoor : PySem.W.hasDictIn K c_BadDoor = true)
  (xa_BadDoor : PySem.W.findIn K (.ref c_BadDoor) "__class__" = some (some (.builtin "object.__class__")))
  (xm_BadDoor : PySem.W.mroIn K c_BadDoor (.type "object") = some true)
  (xg_BadDesk : PySem.W.findIn K (.ref c_BadDesk) "__getattribute__" = some (some (.builtin "BaseException.__getattribute__")))
  (xh_BadDesk : PySem.W.findIn K (.ref c_BadDesk) "__getattr__" = some none)
  (xd_BadDesk : PySem.W.hasDictIn K c_BadDesk = true)
  (xa_BadDesk : PySem.W.findIn K (.ref c_BadDesk) "__class__" = some (some (.builtin "object.__class__")))
  (xm_BadDesk : PySem.W.mroIn K c_BadDesk (.type "object") = some true)
  (xg_BadText : PySem.W.findIn K (.ref c_BadText) "__getattribute__" = some (some (.builtin "BaseException.__getattribute__")))
  (xh_BadText : PySem.W.findIn K (.ref c_BadText) "__getattr__" = some none)
  (xd_BadText : PySem.W.hasDictIn K c_BadText = true)
  (xa_BadText : PySem.W.findIn K (.ref c_BadText) "__class__" = some (some (.builtin "object.__class__")))
  (xm_BadText : PySem.W.mroIn K c_BadText (.type "object") = some true)
  (xg_NotLoose : PySem.W.findIn K (.ref c_NotLoose) "__getattribute__" = some (some (.builtin "BaseException.__getattribute__")))
  (xh_NotLoose : PySem.W.findIn K (.ref c_NotLoose) "__getattr__" = some none)
  (xd_NotLoose : PySem.W.hasDictIn K c_NotLoose = true)
  (xa_NotLoose : PySem.W.findIn K (.ref c_NotLoose) "__class__" = some (some (.builtin "object.__class__")))
  (xm_NotLoose : PySem.W.mroIn K c_NotLoose (.type "object") = some true)
  (xg_Named : PySem.W.findIn K (.ref c_Named) "__getattribute__" = some (some (.builtin "BaseException.__getattribute__")))
  (xh_Named : PySem.W.findIn K (.ref c_Named) "__getattr__" = some none)
  (xd_Named : PySem.W.hasDictIn K c_Named = true)
  (xa_Named : PySem.W.findIn K (.ref c_Named) "__class__" = some (some (.builtin "object.__class__")))
  (xm_Named : PySem.W.mroIn K c_Named (.type "object") = some true)
  (xg_Full : PySem.W.findIn K (.ref c_Full) "__getattribute__" = some (some (.builtin "BaseException.__getattribute__")))
  (xh_Full : PySem.W.findIn K (.ref c_Full) "__getattr__" = some none)
  (xd_Full : PySem.W.hasDictIn K c_Full = true)
  (xa_Full : PySem.W.findIn K (.ref c_Full) "__class__" = some (some (.builtin "object.__class__")))
  (xm_Full : PySem.W.mroIn K c_Full (.type "object") = some true)
  (xg_NoPick : PySem.W.findIn K (.ref c_NoPick) "__getattribute__" = some (some (.builtin "BaseException.__getattribute__")))
  (xh_NoPick : PySem.W.findIn K (.ref c_NoPick) "__getattr__" = some none)
  (xd_NoPick : PySem.W.hasDictIn K c_NoPick = true)
  (xa_NoPick : PySem.W.findIn K (.ref c_NoPick) "__class__" = some (some (.builtin "object.__class__")))
  (xm_NoPick : PySem.W.mroIn K c_NoPick (.type "object") = some true)
  (xg_Broken : PySem.W.findIn K (.ref c_Broken) "__getattribute__" = some (some (.builtin "BaseException.__getattribute__")))
  (xh_Broken : PySem.W.findIn K (.ref c_Broken) "__getattr__" = some none)
  (xd_Broken : PySem.W.hasDictIn K c_Broken = true)
  (xa_Broken : PySem.W.findIn K (.ref c_Broken) "__class__" = some (some (.builtin "object.__class__")))
  (xm_Broken : PySem.W.mroIn K c_Broken (.type "object") = some true)
  (xg_BadHistory : PySem.W.findIn K (.ref c_BadHistory) "__getattribute__" = some (some (.builtin "BaseException.__getattribute__")))
  (xh_BadHistory : PySem.W.findIn K (.ref c_BadHistory) "__getattr__" = some none)
  (xd_BadHistory : PySem.W.hasDictIn K c_BadHistory = true)
  (xa_BadHistory : PySem.W.findIn K (.ref c_BadHistory) "__class__" = some (some (.builtin "object.__class__")))
  (xm_BadHistory : PySem.W.mroIn K c_BadHistory (.type "object") = some true)
  (xg_BadStanding : PySem.W.findIn K (.ref c_BadStanding) "__getattribute__" = some (some (.builtin "BaseException.__getattribute__")))
  (xh_BadStanding : PySem.W.findIn K (.ref c_BadStanding) "__getattr__" = some none)
  (xd_BadStanding : PySem.W.hasDictIn K c_BadStanding = true)
  (xa_BadStanding : PySem.W.findIn K (.ref c_BadStanding) "__class__" = some (some (.builtin "object.__class__")))
  (xm_BadStanding : PySem.W.mroIn K c_BadStanding (.type "object") = some true)
  (xg_BadWay : PySem.W.findIn K (.ref c_BadWay) "__getattribute__" = some (some (.builtin "BaseException.__getattribute__")))
  (xh_BadWay : PySem.W.findIn K (.ref c_BadWay) "__getattr__" = some none)
  (xd_BadWay : PySem.W.hasDictIn K c_BadWay = true)
  (xa_BadWay : PySem.W.findIn K (.ref c_BadWay) "__class__" = some (some (.builtin "object.__class__")))
  (xm_BadWay : PySem.W.mroIn K c_BadWay (.type "object") = some true)
  (xg_NoWay : PySem.W.findIn K (.ref c_NoWay) "__getattribute__" = some (some (.builtin "BaseException.__getattribute__")))
  (xh_NoWay : PySem.W.findIn K (.ref c_NoWay) "__getattr__" = some none)
  (xd_NoWay : PySem.W.hasDictIn K c_NoWay = true)
  (xa_NoWay : PySem.W.findIn K (.ref c_NoWay) "__class__" = some (some (.builtin "object.__class__")))
  (xm_NoWay : PySem.W.mroIn K c_NoWay (.type "object") = some true)
  (xg_TooMany : PySem.W.findIn K (.ref c_TooMany) "__getattribute__" = some (some (.builtin "BaseException.__getattribute__")))
  (xh_TooMany : PySem.W.findIn K (.ref c_TooMany) "__getattr__" = some none)
  (xd_TooMany : PySem.W.hasDictIn K c_TooMany = true)
  (xa_TooMany : PySem.W.findIn K (.ref c_TooMany) "__class__" = some (some (.builtin "object.__class__")))
  (xm_TooMany : PySem.W.mroIn K c_TooMany (.type "object") = some true)
  (xg_NoDoor : PySem.W.findIn K (.ref c_NoDoor) "__getattribute__" = some (some (.builtin "BaseException.__getattribute__")))
  (xh_NoDoor : PySem.W.findIn K (.ref c_NoDoor) "__getattr__" = some none)
  (xd_NoDoor : PySem.W.hasDictIn K c_NoDoor = true)
  (xa_NoDoor : PySem.W.findIn K (.ref c_NoDoor) "__class__" = some (some (.builtin "object.__class__")))
  (xm_NoDoor : PySem.W.mroIn K c_NoDoor (.type "object") = some true)
  (xg_NoBegin : PySem.W.findIn K (.ref c_NoBegin) "__getattribute__" = some (some (.builtin "BaseException.__getattribute__")))
  (xh_NoBegin : PySem.W.findIn K (.ref c_NoBegin) "__getattr__" = some none)
  (xd_NoBegin : PySem.W.hasDictIn K c_NoBegin = true)
  (xa_NoBegin : PySem.W.findIn K (.ref c_NoBegin) "__class__" = some (some (.builtin "object.__class__")))
  (xm_NoBegin : PySem.W.mroIn K c_NoBegin (.type "object") = some true)
  (xg_NoOwner : PySem.W.findIn K (.ref c_NoOwner) "__getattribute__" = some (some (.builtin "BaseException.__getattribute__")))
  (xh_NoOwner : PySem.W.findIn K (.ref c_NoOwner) "__getattr__" = some none)
  (xd_NoOwner : PySem.W.hasDictIn K c_NoOwner = true)
  (xa_NoOwner : PySem.W.findIn K (.ref c_NoOwner) "__class__" = some (some (.builtin "object.__class__")))
  (xm_NoOwner : PySem.W.mroIn K c_NoOwner (.type "object") = some true)
  (xg_NoRow : PySem.W.findIn K (.ref c_NoRow) "__getattribute__" = some (some (.builtin "BaseException.__getattribute__")))
  (xh_NoRow : PySem.W.findIn K (.ref c_NoRow) "__getattr__" = some none)
  (xd_NoRow : PySem.W.hasDictIn K c_NoRow = true)
  (xa_NoRow : PySem.W.findIn K (.ref c_NoRow) "__class__" = some (some (.builtin "object.__class__")))
  (xm_NoRow : PySem.W.mroIn K c_NoRow (.type "object") = some true)
  (xg_NoRule : PySem.W.findIn K (.ref c_NoRule) "__getattribute__" = some (some (.builtin "BaseException.__getattribute__")))
  (xh_NoRule : PySem.W.findIn K (.ref c_NoRule) "__getattr__" = some none)
  (xd_NoRule : PySem.W.hasDictIn K c_NoRule = true)
  (xa_NoRule : PySem.W.findIn K (.ref c_NoRule) "__class__" = some (some (.builtin "object.__class__")))
  (xm_NoRule : PySem.W.mroIn K c_NoRule (.type "object") = some true)
  (xg_NoDivisor : PySem.W.findIn K (.ref c_NoDivisor) "__getattribute__" = some (some (.builtin "BaseException.__getattribute__")))
  (xh_NoDivisor : PySem.W.findIn K (.ref c_NoDivisor) "__getattr__" = some none)
  (xd_NoDivisor : PySem.W.hasDictIn K c_NoDivisor = true)
  (xa_NoDivisor : PySem.W.findIn K (.ref c_NoDivisor) "__class__" = some (some (.builtin "object.__class__")))
  (xm_NoDivisor : PySem.W.mroIn K c_NoDivisor (.type "object") = some true)
  (xg_Waits : PySem.W.findIn K (.ref c_Waits) "__getattribute__" = some (some (.builtin "BaseException.__getattribute__")))
  (xh_Waits : PySem.W.findIn K (.ref c_Waits) "__getattr__" = some none)
  (xd_Waits : PySem.W.hasDictIn K c_Waits = true)
  (xa_Waits : PySem.W.findIn K (.ref c_Waits) "__class__" = some (some (.builtin "object.__class__")))
  (xm_Waits : PySem.W.mroIn K c_Waits (.type "object") = some true)
  (xg_Over : PySem.W.findIn K (.ref c_Over) "__getattribute__" = some (some (.builtin "BaseException.__getattribute__")))
  (xh_Over : PySem.W.findIn K (.ref c_Over) "__getattr__" = some none)
  (xd_Over : PySem.W.hasDictIn K c_Over = true)
  (xa_Over : PySem.W.findIn K (.ref c_Over) "__class__" = some (some (.builtin "object.__class__")))
  (xm_Over : PySem.W.mroIn K c_Over (.type "object") = some true)
  (xg_Busy : PySem.W.findIn K (.ref c_Busy) "__getattribute__" = some (some (.builtin "BaseException.__getattribute__")))
  (xh_Busy : PySem.W.findIn K (.ref c_Busy) "__getattr__" = some none)
  (xd_Busy : PySem.W.hasDictIn K c_Busy = true)
  (xa_Busy : PySem.W.findIn K (.ref c_Busy) "__class__" = some (some (.builtin "object.__class__")))
  (xm_Busy : PySem.W.mroIn K c_Busy (.type "object") = some true)
  (xg_NotKept : PySem.W.findIn K (.ref c_NotKept) "__getattribute__" = some (some (.builtin "BaseException.__getattribute__")))
  (xh_NotKept : PySem.W.findIn K (.ref c_NotKept) "__getattr__" = some none)
  (xd_NotKept : PySem.W.hasDictIn K c_NotKept = true)
  (xa_NotKept : PySem.W.findIn K (.ref c_NotKept) "__class__" = some (some (.builtin "object.__class__")))
  (xm_NotKept : PySem.W.mroIn K c_NotKept (.type "object") = some true)
  (xcn : PySem.W.specialIn K (.builtin "object.__class__") "__get__" = some (some (.builtin "getset_descriptor.__get__")))
  (xct : PySem.W.takesIn K (.builtin "object.__class__") = some true)
    : ∃ fd : FuncData, (∀ (s : Shared) (v : Value), BindsTo s fd ⟨[v], []⟩ [("script", v)]) ∧ ∀ base : Heap, K.In base → base.Ns mainGlobals mg → FnOk l.prog w K mg base CX0 8 fa fd ["script"] (sp_law K) := by
  have e := hfa.symm.trans (PySem.W.mg_of X G a_law)
  cases e
  have T : Txt K mg { f_law_source := f_law_source, fd_law_source := PySem.W.fnOf "_law_source" "_law_source" (defArgs s_law_source) (defBody s_law_source) (defScope s_law_source) .none kV_law_source dc_law_source pm_law_source an_law_source cd_law_source ct_law_source, f_law_mixed := f_law_mixed, fd_law_mixed := PySem.W.fnOf "_law_mixed" "_law_mixed" (defArgs s_law_mixed) (defBody s_law_mixed) (defScope s_law_mixed) .none kV_law_mixed dc_law_mixed pm_law_mixed an_law_mixed cd_law_mixed ct_law_mixed, f_law_draw := f_law_draw, fd_law_draw := PySem.W.fnOf "_law_draw" "_law_draw" (defArgs s_law_draw) (defBody s_law_draw) (defScope s_law_draw) .none kV_law_draw dc_law_draw pm_law_draw an_law_draw cd_law_draw ct_law_draw, f_law_number := f_law_number, fd_law_number := PySem.W.fnOf "_law_number" "_law_number" (defArgs s_law_number) (defBody s_law_number) (defScope s_law_number) .none kV_law_number dc_law_number pm_law_number an_law_number cd_law_number ct_law_number, f_law_word := f_law_word, fd_law_word := PySem.W.fnOf "_law_word" "_law_word" (defArgs s_law_word) (defBody s_law_word) (defScope s_law_word) .none kV_law_word dc_law_word pm_law_word an_law_word cd_law_word ct_law_word, f_law_value := f_law_value, fd_law_value := PySem.W.fnOf "_law_value" "_law_value" (defArgs s_law_value) (defBody s_law_value) (defScope s_law_value) .none kV_law_value dc_law_value pm_law_value an_law_value cd_law_value ct_law_value, f_Unfit___init__ := f_Unfit___init__, fd_Unfit___init__ := PySem.W.fnOf "__init__" "Unfit.__init__" (defArgs s_Unfit___init__) (defBody s_Unfit___init__) (defScope s_Unfit___init__) .none kV_Unfit___init__ dc_Unfit___init__ pm_Unfit___init__ an_Unfit___init__ cd_Unfit___init__ ct_Unfit___init__, f_Refused___init__ := f_Refused___init__, fd_Refused___init__ := PySem.W.fnOf "__init__" "Refused.__init__" (defArgs s_Refused___init__) (defBody s_Refused___init__) (defScope s_Refused___init__) .none kV_Refused___init__ dc_Refused___init__ pm_Refused___init__ an_Refused___init__ cd_Refused___init__ ct_Refused___init__, f_BadWord___init__ := f_BadWord___init__, fd_BadWord___init__ := PySem.W.fnOf "__init__" "BadWord.__init__" (defArgs s_BadWord___init__) (defBody s_BadWord___init__) (defScope s_BadWord___init__) .none kV_BadWord___init__ dc_BadWord___init__ pm_BadWord___init__ an_BadWord___init__ cd_BadWord___init__ ct_BadWord___init__, f_BadNumber___init__ := f_BadNumber___init__, fd_BadNumber___init__ := PySem.W.fnOf "__init__" "BadNumber.__init__" (defArgs s_BadNumber___init__) (defBody s_BadNumber___init__) (defScope s_BadNumber___init__) .none kV_BadNumber___init__ dc_BadNumber___init__ pm_BadNumber___init__ an_BadNumber___init__ cd_BadNumber___init__ ct_BadNumber___init__, f_BadCounts___init__ := f_BadCounts___init__, fd_BadCounts___init__ := PySem.W.fnOf "__init__" "BadCounts.__init__" (defArgs s_BadCounts___init__) (defBody s_BadCounts___init__) (defScope s_BadCounts___init__) .none kV_BadCounts___init__ dc_BadCounts___init__ pm_BadCounts___init__ an_BadCounts___init__ cd_BadCounts___init__ ct_BadCounts___init__, f_BadRule___init__ := f_BadRule___init__, fd_BadRule___init__ := PySem.W.fnOf "__init__" "BadRule.__init__" (defArgs s_BadRule___init__) (defBody s_BadRule___init__) (defScope s_BadRule___init__) .none kV_BadRule___init__ dc_BadRule___init__ pm_BadRule___init__ an_BadRule___init__ cd_BadRule___init__ ct_BadRule___init__, f_BadRules___init__ := f_BadRules___init__, fd_BadRules___init__ := PySem.W.fnOf "__init__" "BadRules.__init__" (defArgs s_BadRules___init__) (defBody s_BadRules___init__) (defScope s_BadRules___init__) .none kV_BadRules___init__ dc_BadRules___init__ pm_BadRules___init__ an_BadRules___init__ cd_BadRules___init__ ct_BadRules___init__, f_BadDoor___init__ := f_BadDoor___init__, fd_BadDoor___init__ := PySem.W.fnOf "__init__" "BadDoor.__init__" (defArgs s_BadDoor___init__) (defBody s_BadDoor___init__) (defScope s_BadDoor___init__) .none kV_BadDoor___init__ dc_BadDoor___init__ pm_BadDoor___init__ an_BadDoor___init__ cd_BadDoor___init__ ct_BadDoor___init__, f_BadDesk___init__ := f_BadDesk___init__, fd_BadDesk___init__ := PySem.W.fnOf "__init__" "BadDesk.__init__" (defArgs s_BadDesk___init__) (defBody s_BadDesk___init__) (defScope s_BadDesk___init__) .none kV_BadDesk___init__ dc_BadDesk___init__ pm_BadDesk___init__ an_BadDesk___init__ cd_BadDesk___init__ ct_BadDesk___init__, f_BadText___init__ := f_BadText___init__, fd_BadText___init__ := PySem.W.fnOf "__init__" "BadText.__init__" (defArgs s_BadText___init__) (defBody s_BadText___init__) (defScope s_BadText___init__) .none kV_BadText___init__ dc_BadText___init__ pm_BadText___init__ an_BadText___init__ cd_BadText___init__ ct_BadText___init__, f_NotLoose___init__ := f_NotLoose___init__, fd_NotLoose___init__ := PySem.W.fnOf "__init__" "NotLoose.__init__" (defArgs s_NotLoose___init__) (defBody s_NotLoose___init__) (defScope s_NotLoose___init__) .none kV_NotLoose___init__ dc_NotLoose___init__ pm_NotLoose___init__ an_NotLoose___init__ cd_NotLoose___init__ ct_NotLoose___init__, f_Named___init__ := f_Named___init__, fd_Named___init__ := PySem.W.fnOf "__init__" "Named.__init__" (defArgs s_Named___init__) (defBody s_Named___init__) (defScope s_Named___init__) .none kV_Named___init__ dc_Named___init__ pm_Named___init__ an_Named___init__ cd_Named___init__ ct_Named___init__, f_Full___init__ := f_Full___init__, fd_Full___init__ := PySem.W.fnOf "__init__" "Full.__init__" (defArgs s_Full___init__) (defBody s_Full___init__) (defScope s_Full___init__) .none kV_Full___init__ dc_Full___init__ pm_Full___init__ an_Full___init__ cd_Full___init__ ct_Full___init__, f_NoPick___init__ := f_NoPick___init__, fd_NoPick___init__ := PySem.W.fnOf "__init__" "NoPick.__init__" (defArgs s_NoPick___init__) (defBody s_NoPick___init__) (defScope s_NoPick___init__) .none kV_NoPick___init__ dc_NoPick___init__ pm_NoPick___init__ an_NoPick___init__ cd_NoPick___init__ ct_NoPick___init__, f_Broken___init__ := f_Broken___init__, fd_Broken___init__ := PySem.W.fnOf "__init__" "Broken.__init__" (defArgs s_Broken___init__) (defBody s_Broken___init__) (defScope s_Broken___init__) .none kV_Broken___init__ dc_Broken___init__ pm_Broken___init__ an_Broken___init__ cd_Broken___init__ ct_Broken___init__, f_BadHistory___init__ := f_BadHistory___init__, fd_BadHistory___init__ := PySem.W.fnOf "__init__" "BadHistory.__init__" (defArgs s_BadHistory___init__) (defBody s_BadHistory___init__) (defScope s_BadHistory___init__) .none kV_BadHistory___init__ dc_BadHistory___init__ pm_BadHistory___init__ an_BadHistory___init__ cd_BadHistory___init__ ct_BadHistory___init__, f_BadStanding___init__ := f_BadStanding___init__, fd_BadStanding___init__ := PySem.W.fnOf "__init__" "BadStanding.__init__" (defArgs s_BadStanding___init__) (defBody s_BadStanding___init__) (defScope s_BadStanding___init__) .none kV_BadStanding___init__ dc_BadStanding___init__ pm_BadStanding___init__ an_BadStanding___init__ cd_BadStanding___init__ ct_BadStanding___init__, f_BadWay___init__ := f_BadWay___init__, fd_BadWay___init__ := PySem.W.fnOf "__init__" "BadWay.__init__" (defArgs s_BadWay___init__) (defBody s_BadWay___init__) (defScope s_BadWay___init__) .none kV_BadWay___init__ dc_BadWay___init__ pm_BadWay___init__ an_BadWay___init__ cd_BadWay___init__ ct_BadWay___init__, f_NoWay___init__ := f_NoWay___init__, fd_NoWay___init__ := PySem.W.fnOf "__init__" "NoWay.__init__" (defArgs s_NoWay___init__) (defBody s_NoWay___init__) (defScope s_NoWay___init__) .none kV_NoWay___init__ dc_NoWay___init__ pm_NoWay___init__ an_NoWay___init__ cd_NoWay___init__ ct_NoWay___init__, f_TooMany___init__ := f_TooMany___init__, fd_TooMany___init__ := PySem.W.fnOf "__init__" "TooMany.__init__" (defArgs s_TooMany___init__) (defBody s_TooMany___init__) (defScope s_TooMany___init__) .none kV_TooMany___init__ dc_TooMany___init__ pm_TooMany___init__ an_TooMany___init__ cd_TooMany___init__ ct_TooMany___init__, f_NoDoor___init__ := f_NoDoor___init__, fd_NoDoor___init__ := PySem.W.fnOf "__init__" "NoDoor.__init__" (defArgs s_NoDoor___init__) (defBody s_NoDoor___init__) (defScope s_NoDoor___init__) .none kV_NoDoor___init__ dc_NoDoor___init__ pm_NoDoor___init__ an_NoDoor___init__ cd_NoDoor___init__ ct_NoDoor___init__, f_NoBegin___init__ := f_NoBegin___init__, fd_NoBegin___init__ := PySem.W.fnOf "__init__" "NoBegin.__init__" (defArgs s_NoBegin___init__) (defBody s_NoBegin___init__) (defScope s_NoBegin___init__) .none kV_NoBegin___init__ dc_NoBegin___init__ pm_NoBegin___init__ an_NoBegin___init__ cd_NoBegin___init__ ct_NoBegin___init__, f_NoOwner___init__ := f_NoOwner___init__, fd_NoOwner___init__ := PySem.W.fnOf "__init__" "NoOwner.__init__" (defArgs s_NoOwner___init__) (defBody s_NoOwner___init__) (defScope s_NoOwner___init__) .none kV_NoOwner___init__ dc_NoOwner___init__ pm_NoOwner___init__ an_NoOwner___init__ cd_NoOwner___init__ ct_NoOwner___init__, f_NoRow___init__ := f_NoRow___init__, fd_NoRow___init__ := PySem.W.fnOf "__init__" "NoRow.__init__" (defArgs s_NoRow___init__) (defBody s_NoRow___init__) (defScope s_NoRow___init__) .none kV_NoRow___init__ dc_NoRow___init__ pm_NoRow___init__ an_NoRow___init__ cd_NoRow___init__ ct_NoRow___init__, f_NoRule___init__ := f_NoRule___init__, fd_NoRule___init__ := PySem.W.fnOf "__init__" "NoRule.__init__" (defArgs s_NoRule___init__) (defBody s_NoRule___init__) (defScope s_NoRule___init__) .none kV_NoRule___init__ dc_NoRule___init__ pm_NoRule___init__ an_NoRule___init__ cd_NoRule___init__ ct_NoRule___init__, f_NoDivisor___init__ := f_NoDivisor___init__, fd_NoDivisor___init__ := PySem.W.fnOf "__init__" "NoDivisor.__init__" (defArgs s_NoDivisor___init__) (defBody s_NoDivisor___init__) (defScope s_NoDivisor___init__) .none kV_NoDivisor___init__ dc_NoDivisor___init__ pm_NoDivisor___init__ an_NoDivisor___init__ cd_NoDivisor___init__ ct_NoDivisor___init__, f_Waits___init__ := f_Waits___init__, fd_Waits___init__ := PySem.W.fnOf "__init__" "Waits.__init__" (defArgs s_Waits___init__) (defBody s_Waits___init__) (defScope s_Waits___init__) .none kV_Waits___init__ dc_Waits___init__ pm_Waits___init__ an_Waits___init__ cd_Waits___init__ ct_Waits___init__, f_Over___init__ := f_Over___init__, fd_Over___init__ := PySem.W.fnOf "__init__" "Over.__init__" (defArgs s_Over___init__) (defBody s_Over___init__) (defScope s_Over___init__) .none kV_Over___init__ dc_Over___init__ pm_Over___init__ an_Over___init__ cd_Over___init__ ct_Over___init__, f_Busy___init__ := f_Busy___init__, fd_Busy___init__ := PySem.W.fnOf "__init__" "Busy.__init__" (defArgs s_Busy___init__) (defBody s_Busy___init__) (defScope s_Busy___init__) .none kV_Busy___init__ dc_Busy___init__ pm_Busy___init__ an_Busy___init__ cd_Busy___init__ ct_Busy___init__, f_law_values := f_law_values, fd_law_values := PySem.W.fnOf "_law_values" "_law_values" (defArgs s_law_values) (defBody s_law_values) (defScope s_law_values) .none kV_law_values dc_law_values pm_law_values an_law_values cd_law_values ct_law_values, f_law_bases := f_law_bases, fd_law_bases := PySem.W.fnOf "_law_bases" "_law_bases" (defArgs s_law_bases) (defBody s_law_bases) (defScope s_law_bases) .none kV_law_bases dc_law_bases pm_law_bases an_law_bases cd_law_bases ct_law_bases, f_law_first := f_law_first, fd_law_first := PySem.W.fnOf "_law_first" "_law_first" (defArgs s_law_first) (defBody s_law_first) (defScope s_law_first) .none kV_law_first dc_law_first pm_law_first an_law_first cd_law_first ct_law_first, f_law_row := f_law_row, fd_law_row := PySem.W.fnOf "_law_row" "_law_row" (defArgs s_law_row) (defBody s_law_row) (defScope s_law_row) .none kV_law_row dc_law_row pm_law_row an_law_row cd_law_row ct_law_row, f_law_second := f_law_second, fd_law_second := PySem.W.fnOf "_law_second" "_law_second" (defArgs s_law_second) (defBody s_law_second) (defScope s_law_second) .none kV_law_second dc_law_second pm_law_second an_law_second cd_law_second ct_law_second, f_law := fa, fd_law := PySem.W.fnOf "law" "law" (defArgs s_law) (defBody s_law) (defScope s_law) .none kV_law dc_law pm_law an_law cd_law ct_law, c_CountsheldError := c_CountsheldError, c_NotKept := c_NotKept, c_Unfit := c_Unfit, c_Refused := c_Refused, c_BadWord := c_BadWord, c_BadNumber := c_BadNumber, c_BadCounts := c_BadCounts, c_BadRule := c_BadRule, c_BadRules := c_BadRules, c_BadDoor := c_BadDoor, c_BadDesk := c_BadDesk, c_BadText := c_BadText, c_NotLoose := c_NotLoose, c_Named := c_Named, c_Full := c_Full, c_NoPick := c_NoPick, c_Broken := c_Broken, c_BadHistory := c_BadHistory, c_BadStanding := c_BadStanding, c_BadWay := c_BadWay, c_NoWay := c_NoWay, c_TooMany := c_TooMany, c_NoDoor := c_NoDoor, c_NoBegin := c_NoBegin, c_NoOwner := c_NoOwner, c_NoRow := c_NoRow, c_NoRule := c_NoRule, c_NoDivisor := c_NoDivisor, c_Waits := c_Waits, c_Over := c_Over, c_Busy := c_Busy } :=
    { vm_CountsheldError := PySem.W.mg_of X G vm_CountsheldError,
      xk_CountsheldError := xk_CountsheldError,
      xq_CountsheldError := xq_CountsheldError,
      vm_NotKept := PySem.W.mg_of X G vm_NotKept,
      xk_NotKept := xk_NotKept,
      xq_NotKept := xq_NotKept,
      vm_Unfit := PySem.W.mg_of X G vm_Unfit,
      ox_Unfit := ⟨⟨_, _, _, _, _, _, _, _, _, _, _, _, _, _, _, xl_Unfit, xr_Unfit⟩, xs_Unfit, xb_Unfit, xt_Unfit, xk_Unfit⟩,
      oi_Unfit := a_Unfit___init__,
      ot_Unfit := xi_Unfit,
      xn_Unfit_door := xn_Unfit_door,
      xn_Unfit_line := xn_Unfit_line,
      vm_Refused := PySem.W.mg_of X G vm_Refused,
      ob_Refused := ⟨⟨_, _, _, _, PySem.F.excBase_RuntimeError, pass_RE, by decide +kernel, _, _, _, _, _, _, _, _, _, _, _, _, _, _, xl_Refused⟩, xs_Refused, xb_Refused, xt_Refused, xk_Refused⟩,
      oi_Refused := a_Refused___init__,
      ot_Refused := xi_Refused,
      xn_Refused_door := xn_Refused_door,
      xn_Refused_line := xn_Refused_line,
      xn_Refused_why := xn_Refused_why,
      vm_BadWord := PySem.W.mg_of X G vm_BadWord,
      ox_BadWord := ⟨⟨_, _, _, _, _, _, _, _, _, _, _, _, _, _, _, xl_BadWord, xr_BadWord⟩, xs_BadWord, xb_BadWord, xt_BadWord, xk_BadWord⟩,
      oi_BadWord := a_BadWord___init__,
      ot_BadWord := xi_BadWord,
      xn_BadWord_word := xn_BadWord_word,
      vm_BadNumber := PySem.W.mg_of X G vm_BadNumber,
      ox_BadNumber := ⟨⟨_, _, _, _, _, _, _, _, _, _, _, _, _, _, _, xl_BadNumber, xr_BadNumber⟩, xs_BadNumber, xb_BadNumber, xt_BadNumber, xk_BadNumber⟩,
      oi_BadNumber := a_BadNumber___init__,
      ot_BadNumber := xi_BadNumber,
      xn_BadNumber_number := xn_BadNumber_number,
      vm_BadCounts := PySem.W.mg_of X G vm_BadCounts,
      ox_BadCounts := ⟨⟨_, _, _, _, _, _, _, _, _, _, _, _, _, _, _, xl_BadCounts, xr_BadCounts⟩, xs_BadCounts, xb_BadCounts, xt_BadCounts, xk_BadCounts⟩,
      oi_BadCounts := a_BadCounts___init__,
      ot_BadCounts := xi_BadCounts,
      xn_BadCounts_at := xn_BadCounts_at,
      vm_BadRule := PySem.W.mg_of X G vm_BadRule,
      ox_BadRule := ⟨⟨_, _, _, _, _, _, _, _, _, _, _, _, _, _, _, xl_BadRule, xr_BadRule⟩, xs_BadRule, xb_BadRule, xt_BadRule, xk_BadRule⟩,
      oi_BadRule := a_BadRule___init__,
      ot_BadRule := xi_BadRule,
      xn_BadRule_what := xn_BadRule_what,
      vm_BadRules := PySem.W.mg_of X G vm_BadRules,
      ox_BadRules := ⟨⟨_, _, _, _, _, _, _, _, _, _, _, _, _, _, _, xl_BadRules, xr_BadRules⟩, xs_BadRules, xb_BadRules, xt_BadRules, xk_BadRules⟩,
      oi_BadRules := a_BadRules___init__,
      ot_BadRules := xi_BadRules,
      xn_BadRules_what := xn_BadRules_what,
      vm_BadDoor := PySem.W.mg_of X G vm_BadDoor,
      ox_BadDoor := ⟨⟨_, _, _, _, _, _, _, _, _, _, _, _, _, _, _, xl_BadDoor, xr_BadDoor⟩, xs_BadDoor, xb_BadDoor, xt_BadDoor, xk_BadDoor⟩,
      oi_BadDoor := a_BadDoor___init__,
      ot_BadDoor := xi_BadDoor,
      xn_BadDoor_at := xn_BadDoor_at,
      vm_BadDesk := PySem.W.mg_of X G vm_BadDesk,
      ox_BadDesk := ⟨⟨_, _, _, _, _, _, _, _, _, _, _, _, _, _, _, xl_BadDesk, xr_BadDesk⟩, xs_BadDesk, xb_BadDesk, xt_BadDesk, xk_BadDesk⟩,
      oi_BadDesk := a_BadDesk___init__,
      ot_BadDesk := xi_BadDesk,
      xn_BadDesk_what := xn_BadDesk_what,
      vm_BadText := PySem.W.mg_of X G vm_BadText,
      ox_BadText := ⟨⟨_, _, _, _, _, _, _, _, _, _, _, _, _, _, _, xl_BadText, xr_BadText⟩, xs_BadText, xb_BadText, xt_BadText, xk_BadText⟩,
      oi_BadText := a_BadText___init__,
      ot_BadText := xi_BadText,
      xn_BadText_at := xn_BadText_at,
      vm_NotLoose := PySem.W.mg_of X G vm_NotLoose,
      ox_NotLoose := ⟨⟨_, _, _, _, _, _, _, _, _, _, _, _, _, _, _, xl_NotLoose, xr_NotLoose⟩, xs_NotLoose, xb_NotLoose, xt_NotLoose, xk_NotLoose⟩,
      oi_NotLoose := a_NotLoose___init__,
      ot_NotLoose := xi_NotLoose,
      xn_NotLoose_kind := xn_NotLoose_kind,
      vm_Named := PySem.W.mg_of X G vm_Named,
      ox_Named := ⟨⟨_, _, _, _, _, _, _, _, _, _, _, _, _, _, _, xl_Named, xr_Named⟩, xs_Named, xb_Named, xt_Named, xk_Named⟩,
      oi_Named := a_Named___init__,
      ot_Named := xi_Named,
      xn_Named_row := xn_Named_row,
      vm_Full := PySem.W.mg_of X G vm_Full,
      ox_Full := ⟨⟨_, _, _, _, _, _, _, _, _, _, _, _, _, _, _, xl_Full, xr_Full⟩, xs_Full, xb_Full, xt_Full, xk_Full⟩,
      oi_Full := a_Full___init__,
      ot_Full := xi_Full,
      xn_Full_owner := xn_Full_owner,
      vm_NoPick := PySem.W.mg_of X G vm_NoPick,
      ox_NoPick := ⟨⟨_, _, _, _, _, _, _, _, _, _, _, _, _, _, _, xl_NoPick, xr_NoPick⟩, xs_NoPick, xb_NoPick, xt_NoPick, xk_NoPick⟩,
      oi_NoPick := a_NoPick___init__,
      ot_NoPick := xi_NoPick,
      xn_NoPick_pick := xn_NoPick_pick,
      vm_Broken := PySem.W.mg_of X G vm_Broken,
      ox_Broken := ⟨⟨_, _, _, _, _, _, _, _, _, _, _, _, _, _, _, xl_Broken, xr_Broken⟩, xs_Broken, xb_Broken, xt_Broken, xk_Broken⟩,
      oi_Broken := a_Broken___init__,
      ot_Broken := xi_Broken,
      xn_Broken_rules := xn_Broken_rules,
      vm_BadHistory := PySem.W.mg_of X G vm_BadHistory,
      ox_BadHistory := ⟨⟨_, _, _, _, _, _, _, _, _, _, _, _, _, _, _, xl_BadHistory, xr_BadHistory⟩, xs_BadHistory, xb_BadHistory, xt_BadHistory, xk_BadHistory⟩,
      oi_BadHistory := a_BadHistory___init__,
      ot_BadHistory := xi_BadHistory,
      xn_BadHistory_at := xn_BadHistory_at,
      vm_BadStanding := PySem.W.mg_of X G vm_BadStanding,
      ox_BadStanding := ⟨⟨_, _, _, _, _, _, _, _, _, _, _, _, _, _, _, xl_BadStanding, xr_BadStanding⟩, xs_BadStanding, xb_BadStanding, xt_BadStanding, xk_BadStanding⟩,
      oi_BadStanding := a_BadStanding___init__,
      ot_BadStanding := xi_BadStanding,
      xn_BadStanding_standing := xn_BadStanding_standing,
      vm_BadWay := PySem.W.mg_of X G vm_BadWay,
      ox_BadWay := ⟨⟨_, _, _, _, _, _, _, _, _, _, _, _, _, _, _, xl_BadWay, xr_BadWay⟩, xs_BadWay, xb_BadWay, xt_BadWay, xk_BadWay⟩,
      oi_BadWay := a_BadWay___init__,
      ot_BadWay := xi_BadWay,
      xn_BadWay_at := xn_BadWay_at,
      vm_NoWay := PySem.W.mg_of X G vm_NoWay,
      ox_NoWay := ⟨⟨_, _, _, _, _, _, _, _, _, _, _, _, _, _, _, xl_NoWay, xr_NoWay⟩, xs_NoWay, xb_NoWay, xt_NoWay, xk_NoWay⟩,
      oi_NoWay := a_NoWay___init__,
      ot_NoWay := xi_NoWay,
      xn_NoWay_standing := xn_NoWay_standing,
      vm_TooMany := PySem.W.mg_of X G vm_TooMany,
      ox_TooMany := ⟨⟨_, _, _, _, _, _, _, _, _, _, _, _, _, _, _, xl_TooMany, xr_TooMany⟩, xs_TooMany, xb_TooMany, xt_TooMany, xk_TooMany⟩,
      oi_TooMany := a_TooMany___init__,
      ot_TooMany := xi_TooMany,
      xn_TooMany_what := xn_TooMany_what,
      vm_NoDoor := PySem.W.mg_of X G vm_NoDoor,
      ob_NoDoor := ⟨⟨_, _, _, _, PySem.F.excBase_LookupError, pass_LE, by decide +kernel, _, _, _, _, _, _, _, _, _, _, _, _, _, _, xl_NoDoor⟩, xs_NoDoor, xb_NoDoor, xt_NoDoor, xk_NoDoor⟩,
      oi_NoDoor := a_NoDoor___init__,
      ot_NoDoor := xi_NoDoor,
      xn_NoDoor_name := xn_NoDoor_name,
      vm_NoBegin := PySem.W.mg_of X G vm_NoBegin,
      ob_NoBegin := ⟨⟨_, _, _, _, PySem.F.excBase_LookupError, pass_LE, by decide +kernel, _, _, _, _, _, _, _, _, _, _, _, _, _, _, xl_NoBegin⟩, xs_NoBegin, xb_NoBegin, xt_NoBegin, xk_NoBegin⟩,
      oi_NoBegin := a_NoBegin___init__,
      ot_NoBegin := xi_NoBegin,
      xn_NoBegin_index := xn_NoBegin_index,
      vm_NoOwner := PySem.W.mg_of X G vm_NoOwner,
      ob_NoOwner := ⟨⟨_, _, _, _, PySem.F.excBase_LookupError, pass_LE, by decide +kernel, _, _, _, _, _, _, _, _, _, _, _, _, _, _, xl_NoOwner⟩, xs_NoOwner, xb_NoOwner, xt_NoOwner, xk_NoOwner⟩,
      oi_NoOwner := a_NoOwner___init__,
      ot_NoOwner := xi_NoOwner,
      xn_NoOwner_owner := xn_NoOwner_owner,
      vm_NoRow := PySem.W.mg_of X G vm_NoRow,
      ob_NoRow := ⟨⟨_, _, _, _, PySem.F.excBase_LookupError, pass_LE, by decide +kernel, _, _, _, _, _, _, _, _, _, _, _, _, _, _, xl_NoRow⟩, xs_NoRow, xb_NoRow, xt_NoRow, xk_NoRow⟩,
      oi_NoRow := a_NoRow___init__,
      ot_NoRow := xi_NoRow,
      xn_NoRow_row := xn_NoRow_row,
      vm_NoRule := PySem.W.mg_of X G vm_NoRule,
      ob_NoRule := ⟨⟨_, _, _, _, PySem.F.excBase_LookupError, pass_LE, by decide +kernel, _, _, _, _, _, _, _, _, _, _, _, _, _, _, xl_NoRule⟩, xs_NoRule, xb_NoRule, xt_NoRule, xk_NoRule⟩,
      oi_NoRule := a_NoRule___init__,
      ot_NoRule := xi_NoRule,
      xn_NoRule_rule := xn_NoRule_rule,
      vm_NoDivisor := PySem.W.mg_of X G vm_NoDivisor,
      ob_NoDivisor := ⟨⟨_, _, _, _, PySem.F.excBase_ZeroDivisionError, pass_ZD, by decide +kernel, _, _, _, _, _, _, _, _, _, _, _, _, _, _, xl_NoDivisor⟩, xs_NoDivisor, xb_NoDivisor, xt_NoDivisor, xk_NoDivisor⟩,
      oi_NoDivisor := a_NoDivisor___init__,
      ot_NoDivisor := xi_NoDivisor,
      xn_NoDivisor_word := xn_NoDivisor_word,
      vm_Waits := PySem.W.mg_of X G vm_Waits,
      ob_Waits := ⟨⟨_, _, _, _, PySem.F.excBase_RuntimeError, pass_RE, by decide +kernel, _, _, _, _, _, _, _, _, _, _, _, _, _, _, xl_Waits⟩, xs_Waits, xb_Waits, xt_Waits, xk_Waits⟩,
      oi_Waits := a_Waits___init__,
      ot_Waits := xi_Waits,
      xn_Waits_owner := xn_Waits_owner,
      vm_Over := PySem.W.mg_of X G vm_Over,
      ob_Over := ⟨⟨_, _, _, _, PySem.F.excBase_RuntimeError, pass_RE, by decide +kernel, _, _, _, _, _, _, _, _, _, _, _, _, _, _, xl_Over⟩, xs_Over, xb_Over, xt_Over, xk_Over⟩,
      oi_Over := a_Over___init__,
      ot_Over := xi_Over,
      xn_Over_number := xn_Over_number,
      vm_Busy := PySem.W.mg_of X G vm_Busy,
      ob_Busy := ⟨⟨_, _, _, _, PySem.F.excBase_RuntimeError, pass_RE, by decide +kernel, _, _, _, _, _, _, _, _, _, _, _, _, _, _, xl_Busy⟩, xs_Busy, xb_Busy, xt_Busy, xk_Busy⟩,
      oi_Busy := a_Busy___init__,
      ot_Busy := xi_Busy,
      xn_Busy_owner := xn_Busy_owner,
      ek_Unfit := ⟨⟨_, _, _, _, PySem.F.excBase_ValueError, (fun Y => PySem.HandSPX.refsVE_contains Y _ xr_Unfit), _, _, _, _, _, _, _, _, _, _, _, _, _, _, xl_Unfit⟩, xk_Unfit⟩,
      ek_Refused := ⟨⟨_, _, _, _, PySem.F.excBase_RuntimeError, (fun _ => rfl), _, _, _, _, _, _, _, _, _, _, _, _, _, _, xl_Refused⟩, xk_Refused⟩,
      ek_BadWord := ⟨⟨_, _, _, _, PySem.F.excBase_ValueError, (fun Y => PySem.HandSPX.refsVE_contains Y _ xr_BadWord), _, _, _, _, _, _, _, _, _, _, _, _, _, _, xl_BadWord⟩, xk_BadWord⟩,
      ek_BadNumber := ⟨⟨_, _, _, _, PySem.F.excBase_ValueError, (fun Y => PySem.HandSPX.refsVE_contains Y _ xr_BadNumber), _, _, _, _, _, _, _, _, _, _, _, _, _, _, xl_BadNumber⟩, xk_BadNumber⟩,
      ek_BadCounts := ⟨⟨_, _, _, _, PySem.F.excBase_ValueError, (fun Y => PySem.HandSPX.refsVE_contains Y _ xr_BadCounts), _, _, _, _, _, _, _, _, _, _, _, _, _, _, xl_BadCounts⟩, xk_BadCounts⟩,
      ek_BadRule := ⟨⟨_, _, _, _, PySem.F.excBase_ValueError, (fun Y => PySem.HandSPX.refsVE_contains Y _ xr_BadRule), _, _, _, _, _, _, _, _, _, _, _, _, _, _, xl_BadRule⟩, xk_BadRule⟩,
      ek_BadRules := ⟨⟨_, _, _, _, PySem.F.excBase_ValueError, (fun Y => PySem.HandSPX.refsVE_contains Y _ xr_BadRules), _, _, _, _, _, _, _, _, _, _, _, _, _, _, xl_BadRules⟩, xk_BadRules⟩,
      ek_BadDoor := ⟨⟨_, _, _, _, PySem.F.excBase_ValueError, (fun Y => PySem.HandSPX.refsVE_contains Y _ xr_BadDoor), _, _, _, _, _, _, _, _, _, _, _, _, _, _, xl_BadDoor⟩, xk_BadDoor⟩,
      ek_BadDesk := ⟨⟨_, _, _, _, PySem.F.excBase_ValueError, (fun Y => PySem.HandSPX.refsVE_contains Y _ xr_BadDesk), _, _, _, _, _, _, _, _, _, _, _, _, _, _, xl_BadDesk⟩, xk_BadDesk⟩,
      ek_BadText := ⟨⟨_, _, _, _, PySem.F.excBase_ValueError, (fun Y => PySem.HandSPX.refsVE_contains Y _ xr_BadText), _, _, _, _, _, _, _, _, _, _, _, _, _, _, xl_BadText⟩, xk_BadText⟩,
      ek_NotLoose := ⟨⟨_, _, _, _, PySem.F.excBase_ValueError, (fun Y => PySem.HandSPX.refsVE_contains Y _ xr_NotLoose), _, _, _, _, _, _, _, _, _, _, _, _, _, _, xl_NotLoose⟩, xk_NotLoose⟩,
      ek_Named := ⟨⟨_, _, _, _, PySem.F.excBase_ValueError, (fun Y => PySem.HandSPX.refsVE_contains Y _ xr_Named), _, _, _, _, _, _, _, _, _, _, _, _, _, _, xl_Named⟩, xk_Named⟩,
      ek_Full := ⟨⟨_, _, _, _, PySem.F.excBase_ValueError, (fun Y => PySem.HandSPX.refsVE_contains Y _ xr_Full), _, _, _, _, _, _, _, _, _, _, _, _, _, _, xl_Full⟩, xk_Full⟩,
      ek_NoPick := ⟨⟨_, _, _, _, PySem.F.excBase_ValueError, (fun Y => PySem.HandSPX.refsVE_contains Y _ xr_NoPick), _, _, _, _, _, _, _, _, _, _, _, _, _, _, xl_NoPick⟩, xk_NoPick⟩,
      ek_Broken := ⟨⟨_, _, _, _, PySem.F.excBase_ValueError, (fun Y => PySem.HandSPX.refsVE_contains Y _ xr_Broken), _, _, _, _, _, _, _, _, _, _, _, _, _, _, xl_Broken⟩, xk_Broken⟩,
      ek_BadHistory := ⟨⟨_, _, _, _, PySem.F.excBase_ValueError, (fun Y => PySem.HandSPX.refsVE_contains Y _ xr_BadHistory), _, _, _, _, _, _, _, _, _, _, _, _, _, _, xl_BadHistory⟩, xk_BadHistory⟩,
      ek_BadStanding := ⟨⟨_, _, _, _, PySem.F.excBase_ValueError, (fun Y => PySem.HandSPX.refsVE_contains Y _ xr_BadStanding), _, _, _, _, _, _, _, _, _, _, _, _, _, _, xl_BadStanding⟩, xk_BadStanding⟩,
      ek_BadWay := ⟨⟨_, _, _, _, PySem.F.excBase_ValueError, (fun Y => PySem.HandSPX.refsVE_contains Y _ xr_BadWay), _, _, _, _, _, _, _, _, _, _, _, _, _, _, xl_BadWay⟩, xk_BadWay⟩,
      ek_NoWay := ⟨⟨_, _, _, _, PySem.F.excBase_ValueError, (fun Y => PySem.HandSPX.refsVE_contains Y _ xr_NoWay), _, _, _, _, _, _, _, _, _, _, _, _, _, _, xl_NoWay⟩, xk_NoWay⟩,
      ek_TooMany := ⟨⟨_, _, _, _, PySem.F.excBase_ValueError, (fun Y => PySem.HandSPX.refsVE_contains Y _ xr_TooMany), _, _, _, _, _, _, _, _, _, _, _, _, _, _, xl_TooMany⟩, xk_TooMany⟩,
      ek_NoDoor := ⟨⟨_, _, _, _, PySem.F.excBase_LookupError, (fun _ => rfl), _, _, _, _, _, _, _, _, _, _, _, _, _, _, xl_NoDoor⟩, xk_NoDoor⟩,
      ek_NoBegin := ⟨⟨_, _, _, _, PySem.F.excBase_LookupError, (fun _ => rfl), _, _, _, _, _, _, _, _, _, _, _, _, _, _, xl_NoBegin⟩, xk_NoBegin⟩,
      ek_NoOwner := ⟨⟨_, _, _, _, PySem.F.excBase_LookupError, (fun _ => rfl), _, _, _, _, _, _, _, _, _, _, _, _, _, _, xl_NoOwner⟩, xk_NoOwner⟩,
      ek_NoRow := ⟨⟨_, _, _, _, PySem.F.excBase_LookupError, (fun _ => rfl), _, _, _, _, _, _, _, _, _, _, _, _, _, _, xl_NoRow⟩, xk_NoRow⟩,
      ek_NoRule := ⟨⟨_, _, _, _, PySem.F.excBase_LookupError, (fun _ => rfl), _, _, _, _, _, _, _, _, _, _, _, _, _, _, xl_NoRule⟩, xk_NoRule⟩,
      ek_NoDivisor := ⟨⟨_, _, _, _, PySem.F.excBase_ZeroDivisionError, (fun _ => rfl), _, _, _, _, _, _, _, _, _, _, _, _, _, _, xl_NoDivisor⟩, xk_NoDivisor⟩,
      ek_Waits := ⟨⟨_, _, _, _, PySem.F.excBase_RuntimeError, (fun _ => rfl), _, _, _, _, _, _, _, _, _, _, _, _, _, _, xl_Waits⟩, xk_Waits⟩,
      ek_Over := ⟨⟨_, _, _, _, PySem.F.excBase_RuntimeError, (fun _ => rfl), _, _, _, _, _, _, _, _, _, _, _, _, _, _, xl_Over⟩, xk_Over⟩,
      ek_Busy := ⟨⟨_, _, _, _, PySem.F.excBase_RuntimeError, (fun _ => rfl), _, _, _, _, _, _, _, _, _, _, _, _, _, _, xl_Busy⟩, xk_Busy⟩,
      ek_CountsheldError := ⟨⟨_, _, _, _, PySem.F.excBase_ValueError, (fun Y => PySem.HandSPX.refsVE_contains Y _ xr_CountsheldError), _, _, _, _, _, _, _, _, _, _, _, _, _, _, xl_CountsheldError⟩, xk_CountsheldError⟩,
      ek_NotKept := ⟨⟨_, _, _, _, PySem.F.excBase_ValueError, (fun Y => PySem.HandSPX.refsVE_contains Y _ xr_NotKept), _, _, _, _, _, _, _, _, _, _, _, _, _, _, xl_NotKept⟩, xk_NotKept⟩,
      cnd := cnd,
      xf_Unfit := ⟨xg_Unfit, xh_Unfit, xb_Unfit, xd_Unfit⟩,
      xf_Refused := ⟨xg_Refused, xh_Refused, xb_Refused, xd_Refused⟩,
      xf_BadWord := ⟨xg_BadWord, xh_BadWord, xb_BadWord, xd_BadWord⟩,
      xf_BadNumber := ⟨xg_BadNumber, xh_BadNumber, xb_BadNumber, xd_BadNumber⟩,
      xf_BadCounts := ⟨xg_BadCounts, xh_BadCounts, xb_BadCounts, xd_BadCounts⟩,
      xf_BadRule := ⟨xg_BadRule, xh_BadRule, xb_BadRule, xd_BadRule⟩,
      xf_BadRules := ⟨xg_BadRules, xh_BadRules, xb_BadRules, xd_BadRules⟩,
      xf_BadDoor := ⟨xg_BadDoor, xh_BadDoor, xb_BadDoor, xd_BadDoor⟩,
      xf_BadDesk := ⟨xg_BadDesk, xh_BadDesk, xb_BadDesk, xd_BadDesk⟩,
      xf_BadText := ⟨xg_BadText, xh_BadText, xb_BadText, xd_BadText⟩,
      xf_NotLoose := ⟨xg_NotLoose, xh_NotLoose, xb_NotLoose, xd_NotLoose⟩,
      xf_Named := ⟨xg_Named, xh_Named, xb_Named, xd_Named⟩,
      xf_Full := ⟨xg_Full, xh_Full, xb_Full, xd_Full⟩,
      xf_NoPick := ⟨xg_NoPick, xh_NoPick, xb_NoPick, xd_NoPick⟩,
      xf_Broken := ⟨xg_Broken, xh_Broken, xb_Broken, xd_Broken⟩,
      xf_BadHistory := ⟨xg_BadHistory, xh_BadHistory, xb_BadHistory, xd_BadHistory⟩,
      xf_BadStanding := ⟨xg_BadStanding, xh_BadStanding, xb_BadStanding, xd_BadStanding⟩,
      xf_BadWay := ⟨xg_BadWay, xh_BadWay, xb_BadWay, xd_BadWay⟩,
      xf_NoWay := ⟨xg_NoWay, xh_NoWay, xb_NoWay, xd_NoWay⟩,
      xf_TooMany := ⟨xg_TooMany, xh_TooMany, xb_TooMany, xd_TooMany⟩,
      xf_NoDoor := ⟨xg_NoDoor, xh_NoDoor, xb_NoDoor, xd_NoDoor⟩,
      xf_NoBegin := ⟨xg_NoBegin, xh_NoBegin, xb_NoBegin, xd_NoBegin⟩,
      xf_NoOwner := ⟨xg_NoOwner, xh_NoOwner, xb_NoOwner, xd_NoOwner⟩,
      xf_NoRow := ⟨xg_NoRow, xh_NoRow, xb_NoRow, xd_NoRow⟩,
      xf_NoRule := ⟨xg_NoRule, xh_NoRule, xb_NoRule, xd_NoRule⟩,
      xf_NoDivisor := ⟨xg_NoDivisor, xh_NoDivisor, xb_NoDivisor, xd_NoDivisor⟩,
      xf_Waits := ⟨xg_Waits, xh_Waits, xb_Waits, xd_Waits⟩,
      xf_Over := ⟨xg_Over, xh_Over, xb_Over, xd_Over⟩,
      xf_Busy := ⟨xg_Busy, xh_Busy, xb_Busy, xd_Busy⟩,
      xf_NotKept := ⟨xg_NotKept, xh_NotKept, xb_NotKept, xd_NotKept⟩,
      xc_Unfit := ⟨xg_Unfit, xh_Unfit, xb_Unfit, xd_Unfit, xa_Unfit, xcn, xct, xm_Unfit⟩,
      xc_Refused := ⟨xg_Refused, xh_Refused, xb_Refused, xd_Refused, xa_Refused, xcn, xct, xm_Refused⟩,
      xc_BadWord := ⟨xg_BadWord, xh_BadWord, xb_BadWord, xd_BadWord, xa_BadWord, xcn, xct, xm_BadWord⟩,
      xc_BadNumber := ⟨xg_BadNumber, xh_BadNumber, xb_BadNumber, xd_BadNumber, xa_BadNumber, xcn, xct, xm_BadNumber⟩,
      xc_BadCounts := ⟨xg_BadCounts, xh_BadCounts, xb_BadCounts, xd_BadCounts, xa_BadCounts, xcn, xct, xm_BadCounts⟩,
      xc_BadRule := ⟨xg_BadRule, xh_BadRule, xb_BadRule, xd_BadRule, xa_BadRule, xcn, xct, xm_BadRule⟩,
      xc_BadRules := ⟨xg_BadRules, xh_BadRules, xb_BadRules, xd_BadRules, xa_BadRules, xcn, xct, xm_BadRules⟩,
      xc_BadDoor := ⟨xg_BadDoor, xh_BadDoor, xb_BadDoor, xd_BadDoor, xa_BadDoor, xcn, xct, xm_BadDoor⟩,
      xc_BadDesk := ⟨xg_BadDesk, xh_BadDesk, xb_BadDesk, xd_BadDesk, xa_BadDesk, xcn, xct, xm_BadDesk⟩,
      xc_BadText := ⟨xg_BadText, xh_BadText, xb_BadText, xd_BadText, xa_BadText, xcn, xct, xm_BadText⟩,
      xc_NotLoose := ⟨xg_NotLoose, xh_NotLoose, xb_NotLoose, xd_NotLoose, xa_NotLoose, xcn, xct, xm_NotLoose⟩,
      xc_Named := ⟨xg_Named, xh_Named, xb_Named, xd_Named, xa_Named, xcn, xct, xm_Named⟩,
      xc_Full := ⟨xg_Full, xh_Full, xb_Full, xd_Full, xa_Full, xcn, xct, xm_Full⟩,
      xc_NoPick := ⟨xg_NoPick, xh_NoPick, xb_NoPick, xd_NoPick, xa_NoPick, xcn, xct, xm_NoPick⟩,
      xc_Broken := ⟨xg_Broken, xh_Broken, xb_Broken, xd_Broken, xa_Broken, xcn, xct, xm_Broken⟩,
      xc_BadHistory := ⟨xg_BadHistory, xh_BadHistory, xb_BadHistory, xd_BadHistory, xa_BadHistory, xcn, xct, xm_BadHistory⟩,
      xc_BadStanding := ⟨xg_BadStanding, xh_BadStanding, xb_BadStanding, xd_BadStanding, xa_BadStanding, xcn, xct, xm_BadStanding⟩,
      xc_BadWay := ⟨xg_BadWay, xh_BadWay, xb_BadWay, xd_BadWay, xa_BadWay, xcn, xct, xm_BadWay⟩,
      xc_NoWay := ⟨xg_NoWay, xh_NoWay, xb_NoWay, xd_NoWay, xa_NoWay, xcn, xct, xm_NoWay⟩,
      xc_TooMany := ⟨xg_TooMany, xh_TooMany, xb_TooMany, xd_TooMany, xa_TooMany, xcn, xct, xm_TooMany⟩,
      xc_NoDoor := ⟨xg_NoDoor, xh_NoDoor, xb_NoDoor, xd_NoDoor, xa_NoDoor, xcn, xct, xm_NoDoor⟩,
      xc_NoBegin := ⟨xg_NoBegin, xh_NoBegin, xb_NoBegin, xd_NoBegin, xa_NoBegin, xcn, xct, xm_NoBegin⟩,
      xc_NoOwner := ⟨xg_NoOwner, xh_NoOwner, xb_NoOwner, xd_NoOwner, xa_NoOwner, xcn, xct, xm_NoOwner⟩,
      xc_NoRow := ⟨xg_NoRow, xh_NoRow, xb_NoRow, xd_NoRow, xa_NoRow, xcn, xct, xm_NoRow⟩,
      xc_NoRule := ⟨xg_NoRule, xh_NoRule, xb_NoRule, xd_NoRule, xa_NoRule, xcn, xct, xm_NoRule⟩,
      xc_NoDivisor := ⟨xg_NoDivisor, xh_NoDivisor, xb_NoDivisor, xd_NoDivisor, xa_NoDivisor, xcn, xct, xm_NoDivisor⟩,
      xc_Waits := ⟨xg_Waits, xh_Waits, xb_Waits, xd_Waits, xa_Waits, xcn, xct, xm_Waits⟩,
      xc_Over := ⟨xg_Over, xh_Over, xb_Over, xd_Over, xa_Over, xcn, xct, xm_Over⟩,
      xc_Busy := ⟨xg_Busy, xh_Busy, xb_Busy, xd_Busy, xa_Busy, xcn, xct, xm_Busy⟩,
      xc_NotKept := ⟨xg_NotKept, xh_NotKept, xb_NotKept, xd_NotKept, xa_NotKept, xcn, xct, xm_NotKept⟩,
      F_law_source := fun_mk (st := s_law_source) l_law_source cd2_law_source kp_law_source,
      m_law_source := PySem.W.mg_of X G a_law_source,
      k_law_source := kp_law_source,
      b_law_source := (fun_mk (st := s_law_source) l_law_source cd2_law_source kp_law_source).binds (ps := ["script"]) fun _ _ _ _ _ _ us hl => match us, hl with | [_], _ => rfl,
      F_law_mixed := fun_mk (st := s_law_mixed) l_law_mixed cd2_law_mixed kp_law_mixed,
      m_law_mixed := PySem.W.mg_of X G a_law_mixed,
      k_law_mixed := kp_law_mixed,
      b_law_mixed := (fun_mk (st := s_law_mixed) l_law_mixed cd2_law_mixed kp_law_mixed).binds (ps := ["cell", "count"]) fun _ _ _ _ _ _ us hl => match us, hl with | [_, _], _ => rfl,
      F_law_draw := fun_mk (st := s_law_draw) l_law_draw cd2_law_draw kp_law_draw,
      m_law_draw := PySem.W.mg_of X G a_law_draw,
      k_law_draw := kp_law_draw,
      b_law_draw := (fun_mk (st := s_law_draw) l_law_draw cd2_law_draw kp_law_draw).binds (ps := ["source", "size"]) fun _ _ _ _ _ _ us hl => match us, hl with | [_, _], _ => rfl,
      F_law_number := fun_mk (st := s_law_number) l_law_number cd2_law_number kp_law_number,
      m_law_number := PySem.W.mg_of X G a_law_number,
      k_law_number := kp_law_number,
      b_law_number := (fun_mk (st := s_law_number) l_law_number cd2_law_number kp_law_number).binds (ps := ["source"]) fun _ _ _ _ _ _ us hl => match us, hl with | [_], _ => rfl,
      F_law_word := fun_mk (st := s_law_word) l_law_word cd2_law_word kp_law_word,
      m_law_word := PySem.W.mg_of X G a_law_word,
      k_law_word := kp_law_word,
      b_law_word := (fun_mk (st := s_law_word) l_law_word cd2_law_word kp_law_word).binds (ps := ["source"]) fun _ _ _ _ _ _ us hl => match us, hl with | [_], _ => rfl,
      F_law_value := fun_mk (st := s_law_value) l_law_value cd2_law_value kp_law_value,
      m_law_value := PySem.W.mg_of X G a_law_value,
      k_law_value := kp_law_value,
      b_law_value := (fun_mk (st := s_law_value) l_law_value cd2_law_value kp_law_value).binds (ps := ["source"]) fun _ _ _ _ _ _ us hl => match us, hl with | [_], _ => rfl,
      F_Unfit___init__ := fun_mk (st := s_Unfit___init__) l_Unfit___init__ cd2_Unfit___init__ kp_Unfit___init__,
      b_Unfit___init__ := (fun_mk (st := s_Unfit___init__) l_Unfit___init__ cd2_Unfit___init__ kp_Unfit___init__).binds (ps := ["self", "door", "line"]) fun _ _ _ _ _ _ us hl => match us, hl with | [_, _, _], _ => rfl,
      F_Refused___init__ := fun_mk (st := s_Refused___init__) l_Refused___init__ cd2_Refused___init__ kp_Refused___init__,
      b_Refused___init__ := (fun_mk (st := s_Refused___init__) l_Refused___init__ cd2_Refused___init__ kp_Refused___init__).binds (ps := ["self", "door", "line", "why"]) fun _ _ _ _ _ _ us hl => match us, hl with | [_, _, _, _], _ => rfl,
      F_BadWord___init__ := fun_mk (st := s_BadWord___init__) l_BadWord___init__ cd2_BadWord___init__ kp_BadWord___init__,
      b_BadWord___init__ := (fun_mk (st := s_BadWord___init__) l_BadWord___init__ cd2_BadWord___init__ kp_BadWord___init__).binds (ps := ["self", "word"]) fun _ _ _ _ _ _ us hl => match us, hl with | [_, _], _ => rfl,
      F_BadNumber___init__ := fun_mk (st := s_BadNumber___init__) l_BadNumber___init__ cd2_BadNumber___init__ kp_BadNumber___init__,
      b_BadNumber___init__ := (fun_mk (st := s_BadNumber___init__) l_BadNumber___init__ cd2_BadNumber___init__ kp_BadNumber___init__).binds (ps := ["self", "number"]) fun _ _ _ _ _ _ us hl => match us, hl with | [_, _], _ => rfl,
      F_BadCounts___init__ := fun_mk (st := s_BadCounts___init__) l_BadCounts___init__ cd2_BadCounts___init__ kp_BadCounts___init__,
      b_BadCounts___init__ := (fun_mk (st := s_BadCounts___init__) l_BadCounts___init__ cd2_BadCounts___init__ kp_BadCounts___init__).binds (ps := ["self", "at"]) fun _ _ _ _ _ _ us hl => match us, hl with | [_, _], _ => rfl,
      F_BadRule___init__ := fun_mk (st := s_BadRule___init__) l_BadRule___init__ cd2_BadRule___init__ kp_BadRule___init__,
      b_BadRule___init__ := (fun_mk (st := s_BadRule___init__) l_BadRule___init__ cd2_BadRule___init__ kp_BadRule___init__).binds (ps := ["self", "what"]) fun _ _ _ _ _ _ us hl => match us, hl with | [_, _], _ => rfl,
      F_BadRules___init__ := fun_mk (st := s_BadRules___init__) l_BadRules___init__ cd2_BadRules___init__ kp_BadRules___init__,
      b_BadRules___init__ := (fun_mk (st := s_BadRules___init__) l_BadRules___init__ cd2_BadRules___init__ kp_BadRules___init__).binds (ps := ["self", "what"]) fun _ _ _ _ _ _ us hl => match us, hl with | [_, _], _ => rfl,
      F_BadDoor___init__ := fun_mk (st := s_BadDoor___init__) l_BadDoor___init__ cd2_BadDoor___init__ kp_BadDoor___init__,
      b_BadDoor___init__ := (fun_mk (st := s_BadDoor___init__) l_BadDoor___init__ cd2_BadDoor___init__ kp_BadDoor___init__).binds (ps := ["self", "at"]) fun _ _ _ _ _ _ us hl => match us, hl with | [_, _], _ => rfl,
      F_BadDesk___init__ := fun_mk (st := s_BadDesk___init__) l_BadDesk___init__ cd2_BadDesk___init__ kp_BadDesk___init__,
      b_BadDesk___init__ := (fun_mk (st := s_BadDesk___init__) l_BadDesk___init__ cd2_BadDesk___init__ kp_BadDesk___init__).binds (ps := ["self", "what"]) fun _ _ _ _ _ _ us hl => match us, hl with | [_, _], _ => rfl,
      F_BadText___init__ := fun_mk (st := s_BadText___init__) l_BadText___init__ cd2_BadText___init__ kp_BadText___init__,
      b_BadText___init__ := (fun_mk (st := s_BadText___init__) l_BadText___init__ cd2_BadText___init__ kp_BadText___init__).binds (ps := ["self", "at"]) fun _ _ _ _ _ _ us hl => match us, hl with | [_, _], _ => rfl,
      F_NotLoose___init__ := fun_mk (st := s_NotLoose___init__) l_NotLoose___init__ cd2_NotLoose___init__ kp_NotLoose___init__,
      b_NotLoose___init__ := (fun_mk (st := s_NotLoose___init__) l_NotLoose___init__ cd2_NotLoose___init__ kp_NotLoose___init__).binds (ps := ["self", "kind"]) fun _ _ _ _ _ _ us hl => match us, hl with | [_, _], _ => rfl,
      F_Named___init__ := fun_mk (st := s_Named___init__) l_Named___init__ cd2_Named___init__ kp_Named___init__,
      b_Named___init__ := (fun_mk (st := s_Named___init__) l_Named___init__ cd2_Named___init__ kp_Named___init__).binds (ps := ["self", "row"]) fun _ _ _ _ _ _ us hl => match us, hl with | [_, _], _ => rfl,
      F_Full___init__ := fun_mk (st := s_Full___init__) l_Full___init__ cd2_Full___init__ kp_Full___init__,
      b_Full___init__ := (fun_mk (st := s_Full___init__) l_Full___init__ cd2_Full___init__ kp_Full___init__).binds (ps := ["self", "owner"]) fun _ _ _ _ _ _ us hl => match us, hl with | [_, _], _ => rfl,
      F_NoPick___init__ := fun_mk (st := s_NoPick___init__) l_NoPick___init__ cd2_NoPick___init__ kp_NoPick___init__,
      b_NoPick___init__ := (fun_mk (st := s_NoPick___init__) l_NoPick___init__ cd2_NoPick___init__ kp_NoPick___init__).binds (ps := ["self", "pick"]) fun _ _ _ _ _ _ us hl => match us, hl with | [_, _], _ => rfl,
      F_Broken___init__ := fun_mk (st := s_Broken___init__) l_Broken___init__ cd2_Broken___init__ kp_Broken___init__,
      b_Broken___init__ := (fun_mk (st := s_Broken___init__) l_Broken___init__ cd2_Broken___init__ kp_Broken___init__).binds (ps := ["self", "rules"]) fun _ _ _ _ _ _ us hl => match us, hl with | [_, _], _ => rfl,
      F_BadHistory___init__ := fun_mk (st := s_BadHistory___init__) l_BadHistory___init__ cd2_BadHistory___init__ kp_BadHistory___init__,
      b_BadHistory___init__ := (fun_mk (st := s_BadHistory___init__) l_BadHistory___init__ cd2_BadHistory___init__ kp_BadHistory___init__).binds (ps := ["self", "at"]) fun _ _ _ _ _ _ us hl => match us, hl with | [_, _], _ => rfl,
      F_BadStanding___init__ := fun_mk (st := s_BadStanding___init__) l_BadStanding___init__ cd2_BadStanding___init__ kp_BadStanding___init__,
      b_BadStanding___init__ := (fun_mk (st := s_BadStanding___init__) l_BadStanding___init__ cd2_BadStanding___init__ kp_BadStanding___init__).binds (ps := ["self", "standing"]) fun _ _ _ _ _ _ us hl => match us, hl with | [_, _], _ => rfl,
      F_BadWay___init__ := fun_mk (st := s_BadWay___init__) l_BadWay___init__ cd2_BadWay___init__ kp_BadWay___init__,
      b_BadWay___init__ := (fun_mk (st := s_BadWay___init__) l_BadWay___init__ cd2_BadWay___init__ kp_BadWay___init__).binds (ps := ["self", "at"]) fun _ _ _ _ _ _ us hl => match us, hl with | [_, _], _ => rfl,
      F_NoWay___init__ := fun_mk (st := s_NoWay___init__) l_NoWay___init__ cd2_NoWay___init__ kp_NoWay___init__,
      b_NoWay___init__ := (fun_mk (st := s_NoWay___init__) l_NoWay___init__ cd2_NoWay___init__ kp_NoWay___init__).binds (ps := ["self", "standing"]) fun _ _ _ _ _ _ us hl => match us, hl with | [_, _], _ => rfl,
      F_TooMany___init__ := fun_mk (st := s_TooMany___init__) l_TooMany___init__ cd2_TooMany___init__ kp_TooMany___init__,
      b_TooMany___init__ := (fun_mk (st := s_TooMany___init__) l_TooMany___init__ cd2_TooMany___init__ kp_TooMany___init__).binds (ps := ["self", "what"]) fun _ _ _ _ _ _ us hl => match us, hl with | [_, _], _ => rfl,
      F_NoDoor___init__ := fun_mk (st := s_NoDoor___init__) l_NoDoor___init__ cd2_NoDoor___init__ kp_NoDoor___init__,
      b_NoDoor___init__ := (fun_mk (st := s_NoDoor___init__) l_NoDoor___init__ cd2_NoDoor___init__ kp_NoDoor___init__).binds (ps := ["self", "name"]) fun _ _ _ _ _ _ us hl => match us, hl with | [_, _], _ => rfl,
      F_NoBegin___init__ := fun_mk (st := s_NoBegin___init__) l_NoBegin___init__ cd2_NoBegin___init__ kp_NoBegin___init__,
      b_NoBegin___init__ := (fun_mk (st := s_NoBegin___init__) l_NoBegin___init__ cd2_NoBegin___init__ kp_NoBegin___init__).binds (ps := ["self", "index"]) fun _ _ _ _ _ _ us hl => match us, hl with | [_, _], _ => rfl,
      F_NoOwner___init__ := fun_mk (st := s_NoOwner___init__) l_NoOwner___init__ cd2_NoOwner___init__ kp_NoOwner___init__,
      b_NoOwner___init__ := (fun_mk (st := s_NoOwner___init__) l_NoOwner___init__ cd2_NoOwner___init__ kp_NoOwner___init__).binds (ps := ["self", "owner"]) fun _ _ _ _ _ _ us hl => match us, hl with | [_, _], _ => rfl,
      F_NoRow___init__ := fun_mk (st := s_NoRow___init__) l_NoRow___init__ cd2_NoRow___init__ kp_NoRow___init__,
      b_NoRow___init__ := (fun_mk (st := s_NoRow___init__) l_NoRow___init__ cd2_NoRow___init__ kp_NoRow___init__).binds (ps := ["self", "row"]) fun _ _ _ _ _ _ us hl => match us, hl with | [_, _], _ => rfl,
      F_NoRule___init__ := fun_mk (st := s_NoRule___init__) l_NoRule___init__ cd2_NoRule___init__ kp_NoRule___init__,
      b_NoRule___init__ := (fun_mk (st := s_NoRule___init__) l_NoRule___init__ cd2_NoRule___init__ kp_NoRule___init__).binds (ps := ["self", "rule"]) fun _ _ _ _ _ _ us hl => match us, hl with | [_, _], _ => rfl,
      F_NoDivisor___init__ := fun_mk (st := s_NoDivisor___init__) l_NoDivisor___init__ cd2_NoDivisor___init__ kp_NoDivisor___init__,
      b_NoDivisor___init__ := (fun_mk (st := s_NoDivisor___init__) l_NoDivisor___init__ cd2_NoDivisor___init__ kp_NoDivisor___init__).binds (ps := ["self", "word"]) fun _ _ _ _ _ _ us hl => match us, hl with | [_, _], _ => rfl,
      F_Waits___init__ := fun_mk (st := s_Waits___init__) l_Waits___init__ cd2_Waits___init__ kp_Waits___init__,
      b_Waits___init__ := (fun_mk (st := s_Waits___init__) l_Waits___init__ cd2_Waits___init__ kp_Waits___init__).binds (ps := ["self", "owner"]) fun _ _ _ _ _ _ us hl => match us, hl with | [_, _], _ => rfl,
      F_Over___init__ := fun_mk (st := s_Over___init__) l_Over___init__ cd2_Over___init__ kp_Over___init__,
      b_Over___init__ := (fun_mk (st := s_Over___init__) l_Over___init__ cd2_Over___init__ kp_Over___init__).binds (ps := ["self", "number"]) fun _ _ _ _ _ _ us hl => match us, hl with | [_, _], _ => rfl,
      F_Busy___init__ := fun_mk (st := s_Busy___init__) l_Busy___init__ cd2_Busy___init__ kp_Busy___init__,
      b_Busy___init__ := (fun_mk (st := s_Busy___init__) l_Busy___init__ cd2_Busy___init__ kp_Busy___init__).binds (ps := ["self", "owner"]) fun _ _ _ _ _ _ us hl => match us, hl with | [_, _], _ => rfl,
      F_law_values := fun_mk (st := s_law_values) l_law_values cd2_law_values kp_law_values,
      m_law_values := PySem.W.mg_of X G a_law_values,
      k_law_values := kp_law_values,
      b_law_values := (fun_mk (st := s_law_values) l_law_values cd2_law_values kp_law_values).binds (ps := ["one", "two", "three"]) fun _ _ _ _ _ _ us hl => match us, hl with | [_, _, _], _ => rfl,
      F_law_bases := fun_mk (st := s_law_bases) l_law_bases cd2_law_bases kp_law_bases,
      m_law_bases := PySem.W.mg_of X G a_law_bases,
      k_law_bases := kp_law_bases,
      b_law_bases := (fun_mk (st := s_law_bases) l_law_bases cd2_law_bases kp_law_bases).binds (ps := ["e"]) fun _ _ _ _ _ _ us hl => match us, hl with | [_], _ => rfl,
      F_law_first := fun_mk (st := s_law_first) l_law_first cd2_law_first kp_law_first,
      m_law_first := PySem.W.mg_of X G a_law_first,
      k_law_first := kp_law_first,
      b_law_first := (fun_mk (st := s_law_first) l_law_first cd2_law_first kp_law_first).binds (ps := ["e"]) fun _ _ _ _ _ _ us hl => match us, hl with | [_], _ => rfl,
      F_law_row := fun_mk (st := s_law_row) l_law_row cd2_law_row kp_law_row,
      m_law_row := PySem.W.mg_of X G a_law_row,
      k_law_row := kp_law_row,
      b_law_row := (fun_mk (st := s_law_row) l_law_row cd2_law_row kp_law_row).binds (ps := ["at", "many"]) fun _ _ _ _ _ _ us hl => match us, hl with | [_, _], _ => rfl,
      F_law_second := fun_mk (st := s_law_second) l_law_second cd2_law_second kp_law_second,
      m_law_second := PySem.W.mg_of X G a_law_second,
      k_law_second := kp_law_second,
      b_law_second := (fun_mk (st := s_law_second) l_law_second cd2_law_second kp_law_second).binds (ps := ["e"]) fun _ _ _ _ _ _ us hl => match us, hl with | [_], _ => rfl,
      F_law := fun_mk (st := s_law) l_law cd2_law kp_law,
      m_law := PySem.W.mg_of X G a_law,
      k_law := kp_law,
      b_law := (fun_mk (st := s_law) l_law cd2_law kp_law).binds (ps := ["script"]) fun _ _ _ _ _ _ us hl => match us, hl with | [_], _ => rfl,
      n_LookupError := PySem.W.mg_none_of X G z_LookupError,
      n_RuntimeError := PySem.W.mg_none_of X G z_RuntimeError,
      n_ValueError := PySem.W.mg_none_of X G z_ValueError,
      n_ZeroDivisionError := PySem.W.mg_none_of X G z_ZeroDivisionError,
      n_abs := PySem.W.mg_none_of X G z_abs,
      n_bool := PySem.W.mg_none_of X G z_bool,
      n_int := PySem.W.mg_none_of X G z_int,
      n_isinstance := PySem.W.mg_none_of X G z_isinstance,
      n_len := PySem.W.mg_none_of X G z_len,
      n_list := PySem.W.mg_none_of X G z_list,
      n_range := PySem.W.mg_none_of X G z_range }
  exact ⟨PySem.W.fnOf "law" "law" (defArgs s_law) (defBody s_law) (defScope s_law) .none kV_law dc_law pm_law an_law cd_law ct_law, fun s v => .of_eq rfl, fun base _ _ => ok_law T⟩
theorem walk {l : PySem.W.OpenLaw} {q : Program} {loose : List Str} {XP : (Str → Option Value) → Heap → Prop} {YP : World → Heap → Prop} {d : DefRec} {K : Params → PySem.W.Frag} (hn : l.most = some 63) (hdf : d.params.defaults = [])
    (hY : ∀ (w : World) (h : Heap), YP w h → (K w.params).In h)
    (F : ∀ (w : World) (mg : Str → Option Value) (fa : Addr) (h : Heap), (K w.params).In h → h.Ns mainGlobals mg → mg d.name = some (.ref fa) →
      ∃ fd : FuncData, (∀ (s : Shared) (u : Value), BindsTo s fd ⟨[u], []⟩ [("script", u)]) ∧ ∀ base : Heap, (K w.params).In base → base.Ns mainGlobals mg → FnOk l.prog w (K w.params) mg base CX0 8 fa fd ["script"] (sp_law (K w.params))) :
    PySem.W.WalkO q loose XP YP l.row.toRowW d [] (fun f vs => PySem.call f vs) :=
  L2.walk_of (n := 63) (k := 8) (x := "script") (CX := fun _ => CX0) (sp := fun w => sp_law (K w.params)) hn (by decide) hdf ⟨rfl, by decide, by decide⟩ hY F (fun _ _ a ns hl _ hS => ⟨a, ns, rfl, hS, hl, fun _ => rfl⟩) fun _ _ _ _ _ z => z
end Y
open PySem PySem.W PyProof.Rows
set_option maxRecDepth 100000 in
set_option maxHeartbeats 0 in
theorem PySem.Challenge.cw_countsheld_k33_errors_made_holds : PySem.Challenge.rw_countsheld_k33_errors_made.Holds := by
  w_on; o_law; k_head; (case hw => w_witness2)
  k_fill
  refine Y.walk (l := PySem.Challenge.rw_countsheld_k33_errors_made) rfl rfl (fun w h Y => PySem.W.kIn_of Y) ?F
  case F =>
    intro w mg fa h KX G hmg
    refine' Y.all_mk KX G hmg ?a_law_source ?a_law_mixed ?a_law_draw ?a_law_number ?a_law_word ?a_law_value ?a_law_values ?a_law_bases ?a_law_first ?a_law_row ?a_law_second ?a_law ?vm_Unfit ?vm_Refused ?vm_BadWord ?vm_BadNumber ?vm_BadCounts ?vm_BadRule ?vm_BadRules ?vm_BadDoor ?vm_BadDesk ?vm_BadText ?vm_NotLoose ?vm_Named ?vm_Full ?vm_NoPick ?vm_Broken ?vm_BadHistory ?vm_BadStanding ?vm_BadWay ?vm_NoWay ?vm_TooMany ?vm_NoDoor ?vm_NoBegin ?vm_NoOwner ?vm_NoRow ?vm_NoRule ?vm_NoDivisor ?vm_Waits ?vm_Over ?vm_Busy ?vm_CountsheldError ?vm_NotKept ?l_law_source ?cd2_law_source ?kp_law_source ?l_law_mixed ?cd2_law_mixed ?kp_law_mixed ?l_law_draw ?cd2_law_draw ?kp_law_draw ?l_law_number ?cd2_law_number ?kp_law_number ?l_law_word ?cd2_law_word ?kp_law_word ?l_law_value ?cd2_law_value ?kp_law_value ?a_Unfit___init__ ?l_Unfit___init__ ?cd2_Unfit___init__ ?kp_Unfit___init__ ?a_Refused___init__ ?l_Refused___init__ ?cd2_Refused___init__ ?kp_Refused___init__ ?a_BadWord___init__ ?l_BadWord___init__ ?cd2_BadWord___init__ ?kp_BadWord___init__ ?a_BadNumber___init__ ?l_BadNumber___init__ ?cd2_BadNumber___init__ ?kp_BadNumber___init__ ?a_BadCounts___init__ ?l_BadCounts___init__ ?cd2_BadCounts___init__ ?kp_BadCounts___init__ ?a_BadRule___init__ ?l_BadRule___init__ ?cd2_BadRule___init__ ?kp_BadRule___init__ ?a_BadRules___init__ ?l_BadRules___init__ ?cd2_BadRules___init__ ?kp_BadRules___init__ ?a_BadDoor___init__ ?l_BadDoor___init__ ?cd2_BadDoor___init__ ?kp_BadDoor___init__ ?a_BadDesk___init__ ?l_BadDesk___init__ ?cd2_BadDesk___init__ ?kp_BadDesk___init__ ?a_BadText___init__ ?l_BadText___init__ ?cd2_BadText___init__ ?kp_BadText___init__ ?a_NotLoose___init__ ?l_NotLoose___init__ ?cd2_NotLoose___init__ ?kp_NotLoose___init__ ?a_Named___init__ ?l_Named___init__ ?cd2_Named___init__ ?kp_Named___init__ ?a_Full___init__ ?l_Full___init__ ?cd2_Full___init__ ?kp_Full___init__ ?a_NoPick___init__ ?l_NoPick___init__ ?cd2_NoPick___init__ ?kp_NoPick___init__ ?a_Broken___init__ ?l_Broken___init__ ?cd2_Broken___init__ ?kp_Broken___init__ ?a_BadHistory___init__ ?l_BadHistory___init__ ?cd2_BadHistory___init__ ?kp_BadHistory___init__ ?a_BadStanding___init__ ?l_BadStanding___init__ ?cd2_BadStanding___init__ ?kp_BadStanding___init__ ?a_BadWay___init__ ?l_BadWay___init__ ?cd2_BadWay___init__ ?kp_BadWay___init__ ?a_NoWay___init__ ?l_NoWay___init__ ?cd2_NoWay___init__ ?kp_NoWay___init__ ?a_TooMany___init__ ?l_TooMany___init__ ?cd2_TooMany___init__ ?kp_TooMany___init__ ?a_NoDoor___init__ ?l_NoDoor___init__ ?cd2_NoDoor___init__ ?kp_NoDoor___init__ ?a_NoBegin___init__ ?l_NoBegin___init__ ?cd2_NoBegin___init__ ?kp_NoBegin___init__ ?a_NoOwner___init__ ?l_NoOwner___init__ ?cd2_NoOwner___init__ ?kp_NoOwner___init__ ?a_NoRow___init__ ?l_NoRow___init__ ?cd2_NoRow___init__ ?kp_NoRow___init__ ?a_NoRule___init__ ?l_NoRule___init__ ?cd2_NoRule___init__ ?kp_NoRule___init__ ?a_NoDivisor___init__ ?l_NoDivisor___init__ ?cd2_NoDivisor___init__ ?kp_NoDivisor___init__ ?a_Waits___init__ ?l_Waits___init__ ?cd2_Waits___init__ ?kp_Waits___init__ ?a_Over___init__ ?l_Over___init__ ?cd2_Over___init__ ?kp_Over___init__ ?a_Busy___init__ ?l_Busy___init__ ?cd2_Busy___init__ ?kp_Busy___init__ ?l_law_values ?cd2_law_values ?kp_law_values ?l_law_bases ?cd2_law_bases ?kp_law_bases ?l_law_first ?cd2_law_first ?kp_law_first ?l_law_row ?cd2_law_row ?kp_law_row ?l_law_second ?cd2_law_second ?kp_law_second ?l_law ?cd2_law ?kp_law ?z_LookupError ?z_RuntimeError ?z_ValueError ?z_ZeroDivisionError ?z_abs ?z_bool ?z_int ?z_isinstance ?z_len ?z_list ?z_range ?xl_CountsheldError ?xr_CountsheldError ?xk_CountsheldError ?xb_CountsheldError ?xq_CountsheldError ?xl_NotKept ?xr_NotKept ?xk_NotKept ?xb_NotKept ?xq_NotKept ?xl_Unfit ?xr_Unfit ?xs_Unfit ?xb_Unfit ?xt_Unfit ?xk_Unfit ?xi_Unfit ?xn_Unfit_door ?xn_Unfit_line ?xl_Refused ?xs_Refused ?xb_Refused ?xt_Refused ?xk_Refused ?xi_Refused ?xn_Refused_door ?xn_Refused_line ?xn_Refused_why ?xl_BadWord ?xr_BadWord ?xs_BadWord ?xb_BadWord ?xt_BadWord ?xk_BadWord ?xi_BadWord ?xn_BadWord_word ?xl_BadNumber ?xr_BadNumber ?xs_BadNumber ?xb_BadNumber ?xt_BadNumber ?xk_BadNumber ?xi_BadNumber ?xn_BadNumber_number ?xl_BadCounts ?xr_BadCounts ?xs_BadCounts ?xb_BadCounts ?xt_BadCounts ?xk_BadCounts ?xi_BadCounts ?xn_BadCounts_at ?xl_BadRule ?xr_BadRule ?xs_BadRule ?xb_BadRule ?xt_BadRule ?xk_BadRule ?xi_BadRule ?xn_BadRule_what ?xl_BadRules ?xr_BadRules ?xs_BadRules ?xb_BadRules ?xt_BadRules ?xk_BadRules ?xi_BadRules ?xn_BadRules_what ?xl_BadDoor ?xr_BadDoor ?xs_BadDoor ?xb_BadDoor ?xt_BadDoor ?xk_BadDoor ?xi_BadDoor ?xn_BadDoor_at ?xl_BadDesk ?xr_BadDesk ?xs_BadDesk ?xb_BadDesk ?xt_BadDesk ?xk_BadDesk ?xi_BadDesk ?xn_BadDesk_what ?xl_BadText ?xr_BadText ?xs_BadText ?xb_BadText ?xt_BadText ?xk_BadText ?xi_BadText ?xn_BadText_at ?xl_NotLoose ?xr_NotLoose ?xs_NotLoose ?xb_NotLoose ?xt_NotLoose ?xk_NotLoose ?xi_NotLoose ?xn_NotLoose_kind ?xl_Named ?xr_Named ?xs_Named ?xb_Named ?xt_Named ?xk_Named ?xi_Named ?xn_Named_row ?xl_Full ?xr_Full ?xs_Full ?xb_Full ?xt_Full ?xk_Full ?xi_Full ?xn_Full_owner ?xl_NoPick ?xr_NoPick ?xs_NoPick ?xb_NoPick ?xt_NoPick ?xk_NoPick ?xi_NoPick ?xn_NoPick_pick ?xl_Broken ?xr_Broken ?xs_Broken ?xb_Broken ?xt_Broken ?xk_Broken ?xi_Broken ?xn_Broken_rules ?xl_BadHistory ?xr_BadHistory ?xs_BadHistory ?xb_BadHistory ?xt_BadHistory ?xk_BadHistory ?xi_BadHistory ?xn_BadHistory_at ?xl_BadStanding ?xr_BadStanding ?xs_BadStanding ?xb_BadStanding ?xt_BadStanding ?xk_BadStanding ?xi_BadStanding ?xn_BadStanding_standing ?xl_BadWay ?xr_BadWay ?xs_BadWay ?xb_BadWay ?xt_BadWay ?xk_BadWay ?xi_BadWay ?xn_BadWay_at ?xl_NoWay ?xr_NoWay ?xs_NoWay ?xb_NoWay ?xt_NoWay ?xk_NoWay ?xi_NoWay ?xn_NoWay_standing ?xl_TooMany ?xr_TooMany ?xs_TooMany ?xb_TooMany ?xt_TooMany ?xk_TooMany ?xi_TooMany ?xn_TooMany_what ?xl_NoDoor ?xs_NoDoor ?xb_NoDoor ?xt_NoDoor ?xk_NoDoor ?xi_NoDoor ?xn_NoDoor_name ?xl_NoBegin ?xs_NoBegin ?xb_NoBegin ?xt_NoBegin ?xk_NoBegin ?xi_NoBegin ?xn_NoBegin_index ?xl_NoOwner ?xs_NoOwner ?xb_NoOwner ?xt_NoOwner ?xk_NoOwner ?xi_NoOwner ?xn_NoOwner_owner ?xl_NoRow ?xs_NoRow ?xb_NoRow ?xt_NoRow ?xk_NoRow ?xi_NoRow ?xn_NoRow_row ?xl_NoRule ?xs_NoRule ?xb_NoRule ?xt_NoRule ?xk_NoRule ?xi_NoRule ?xn_NoRule_rule ?xl_NoDivisor ?xs_NoDivisor ?xb_NoDivisor ?xt_NoDivisor ?xk_NoDivisor ?xi_NoDivisor ?xn_NoDivisor_word ?xl_Waits ?xs_Waits ?xb_Waits ?xt_Waits ?xk_Waits ?xi_Waits ?xn_Waits_owner ?xl_Over ?xs_Over ?xb_Over ?xt_Over ?xk_Over ?xi_Over ?xn_Over_number ?xl_Busy ?xs_Busy ?xb_Busy ?xt_Busy ?xk_Busy ?xi_Busy ?xn_Busy_owner ?cnd ?xg_Unfit ?xh_Unfit ?xd_Unfit ?xa_Unfit ?xm_Unfit ?xg_Refused ?xh_Refused ?xd_Refused ?xa_Refused ?xm_Refused ?xg_BadWord ?xh_BadWord ?xd_BadWord ?xa_BadWord ?xm_BadWord ?xg_BadNumber ?xh_BadNumber ?xd_BadNumber ?xa_BadNumber ?xm_BadNumber ?xg_BadCounts ?xh_BadCounts ?xd_BadCounts ?xa_BadCounts ?xm_BadCounts ?xg_BadRule ?xh_BadRule ?xd_BadRule ?xa_BadRule ?xm_BadRule ?xg_BadRules ?xh_BadRules ?xd_BadRules ?xa_BadRules ?xm_BadRules ?xg_BadDoor ?xh_BadDoor ?xd_BadDoor ?xa_BadDoor ?xm_BadDoor ?xg_BadDesk ?xh_BadDesk ?xd_BadDesk ?xa_BadDesk ?xm_BadDesk ?xg_BadText ?xh_BadText ?xd_BadText ?xa_BadText ?xm_BadText ?xg_NotLoose ?xh_NotLoose ?xd_NotLoose ?xa_NotLoose ?xm_NotLoose ?xg_Named ?xh_Named ?xd_Named ?xa_Named ?xm_Named ?xg_Full ?xh_Full ?xd_Full ?xa_Full ?xm_Full ?xg_NoPick ?xh_NoPick ?xd_NoPick ?xa_NoPick ?xm_NoPick ?xg_Broken ?xh_Broken ?xd_Broken ?xa_Broken ?xm_Broken ?xg_BadHistory ?xh_BadHistory ?xd_BadHistory ?xa_BadHistory ?xm_BadHistory ?xg_BadStanding ?xh_BadStanding ?xd_BadStanding ?xa_BadStanding ?xm_BadStanding ?xg_BadWay ?xh_BadWay ?xd_BadWay ?xa_BadWay ?xm_BadWay ?xg_NoWay ?xh_NoWay ?xd_NoWay ?xa_NoWay ?xm_NoWay ?xg_TooMany ?xh_TooMany ?xd_TooMany ?xa_TooMany ?xm_TooMany ?xg_NoDoor ?xh_NoDoor ?xd_NoDoor ?xa_NoDoor ?xm_NoDoor ?xg_NoBegin ?xh_NoBegin ?xd_NoBegin ?xa_NoBegin ?xm_NoBegin ?xg_NoOwner ?xh_NoOwner ?xd_NoOwner ?xa_NoOwner ?xm_NoOwner ?xg_NoRow ?xh_NoRow ?xd_NoRow ?xa_NoRow ?xm_NoRow ?xg_NoRule ?xh_NoRule ?xd_NoRule ?xa_NoRule ?xm_NoRule ?xg_NoDivisor ?xh_NoDivisor ?xd_NoDivisor ?xa_NoDivisor ?xm_NoDivisor ?xg_Waits ?xh_Waits ?xd_Waits ?xa_Waits ?xm_Waits ?xg_Over ?xh_Over ?xd_Over ?xa_Over ?xm_Over ?xg_Busy ?xh_Busy ?xd_Busy ?xa_Busy ?xm_Busy ?xg_NotKept ?xh_NotKept ?xd_NotKept ?xa_NotKept ?xm_NotKept ?xcn ?xct
    (case a_law_source => k_is)
    (case a_law_mixed => k_is)
    (case a_law_draw => k_is)
    (case a_law_number => k_is)
    (case a_law_word => k_is)
    (case a_law_value => k_is)
    (case a_law_values => k_is)
    (case a_law_bases => k_is)
    (case a_law_first => k_is)
    (case a_law_row => k_is)
    (case a_law_second => k_is)
    (case a_law => k_is)
    (case vm_Unfit => k_is)
    (case vm_Refused => k_is)
    (case vm_BadWord => k_is)
    (case vm_BadNumber => k_is)
    (case vm_BadCounts => k_is)
    (case vm_BadRule => k_is)
    (case vm_BadRules => k_is)
    (case vm_BadDoor => k_is)
    (case vm_BadDesk => k_is)
    (case vm_BadText => k_is)
    (case vm_NotLoose => k_is)
    (case vm_Named => k_is)
    (case vm_Full => k_is)
    (case vm_NoPick => k_is)
    (case vm_Broken => k_is)
    (case vm_BadHistory => k_is)
    (case vm_BadStanding => k_is)
    (case vm_BadWay => k_is)
    (case vm_NoWay => k_is)
    (case vm_TooMany => k_is)
    (case vm_NoDoor => k_is)
    (case vm_NoBegin => k_is)
    (case vm_NoOwner => k_is)
    (case vm_NoRow => k_is)
    (case vm_NoRule => k_is)
    (case vm_NoDivisor => k_is)
    (case vm_Waits => k_is)
    (case vm_Over => k_is)
    (case vm_Busy => k_is)
    (case vm_CountsheldError => k_is)
    (case vm_NotKept => k_is)
    (case l_law_source => k_is)
    (case cd2_law_source => k_is)
    (case kp_law_source => k_is)
    (case l_law_mixed => k_is)
    (case cd2_law_mixed => k_is)
    (case kp_law_mixed => k_is)
    (case l_law_draw => k_is)
    (case cd2_law_draw => k_is)
    (case kp_law_draw => k_is)
    (case l_law_number => k_is)
    (case cd2_law_number => k_is)
    (case kp_law_number => k_is)
    (case l_law_word => k_is)
    (case cd2_law_word => k_is)
    (case kp_law_word => k_is)
    (case l_law_value => k_is)
    (case cd2_law_value => k_is)
    (case kp_law_value => k_is)
    (case a_Unfit___init__ => k_is)
    (case l_Unfit___init__ => k_is)
    (case cd2_Unfit___init__ => k_is)
    (case kp_Unfit___init__ => k_is)
    (case a_Refused___init__ => k_is)
    (case l_Refused___init__ => k_is)
    (case cd2_Refused___init__ => k_is)
    (case kp_Refused___init__ => k_is)
    (case a_BadWord___init__ => k_is)
    (case l_BadWord___init__ => k_is)
    (case cd2_BadWord___init__ => k_is)
    (case kp_BadWord___init__ => k_is)
    (case a_BadNumber___init__ => k_is)
    (case l_BadNumber___init__ => k_is)
    (case cd2_BadNumber___init__ => k_is)
    (case kp_BadNumber___init__ => k_is)
    (case a_BadCounts___init__ => k_is)
    (case l_BadCounts___init__ => k_is)
    (case cd2_BadCounts___init__ => k_is)
    (case kp_BadCounts___init__ => k_is)
    (case a_BadRule___init__ => k_is)
    (case l_BadRule___init__ => k_is)
    (case cd2_BadRule___init__ => k_is)
    (case kp_BadRule___init__ => k_is)
    (case a_BadRules___init__ => k_is)
    (case l_BadRules___init__ => k_is)
    (case cd2_BadRules___init__ => k_is)
    (case kp_BadRules___init__ => k_is)
    (case a_BadDoor___init__ => k_is)
    (case l_BadDoor___init__ => k_is)
    (case cd2_BadDoor___init__ => k_is)
    (case kp_BadDoor___init__ => k_is)
    (case a_BadDesk___init__ => k_is)
    (case l_BadDesk___init__ => k_is)
    (case cd2_BadDesk___init__ => k_is)
    (case kp_BadDesk___init__ => k_is)
    (case a_BadText___init__ => k_is)
    (case l_BadText___init__ => k_is)
    (case cd2_BadText___init__ => k_is)
    (case kp_BadText___init__ => k_is)
    (case a_NotLoose___init__ => k_is)
    (case l_NotLoose___init__ => k_is)
    (case cd2_NotLoose___init__ => k_is)
    (case kp_NotLoose___init__ => k_is)
    (case a_Named___init__ => k_is)
    (case l_Named___init__ => k_is)
    (case cd2_Named___init__ => k_is)
    (case kp_Named___init__ => k_is)
    (case a_Full___init__ => k_is)
    (case l_Full___init__ => k_is)
    (case cd2_Full___init__ => k_is)
    (case kp_Full___init__ => k_is)
    (case a_NoPick___init__ => k_is)
    (case l_NoPick___init__ => k_is)
    (case cd2_NoPick___init__ => k_is)
    (case kp_NoPick___init__ => k_is)
    (case a_Broken___init__ => k_is)
    (case l_Broken___init__ => k_is)
    (case cd2_Broken___init__ => k_is)
    (case kp_Broken___init__ => k_is)
    (case a_BadHistory___init__ => k_is)
    (case l_BadHistory___init__ => k_is)
    (case cd2_BadHistory___init__ => k_is)
    (case kp_BadHistory___init__ => k_is)
    (case a_BadStanding___init__ => k_is)
    (case l_BadStanding___init__ => k_is)
    (case cd2_BadStanding___init__ => k_is)
    (case kp_BadStanding___init__ => k_is)
    (case a_BadWay___init__ => k_is)
    (case l_BadWay___init__ => k_is)
    (case cd2_BadWay___init__ => k_is)
    (case kp_BadWay___init__ => k_is)
    (case a_NoWay___init__ => k_is)
    (case l_NoWay___init__ => k_is)
    (case cd2_NoWay___init__ => k_is)
    (case kp_NoWay___init__ => k_is)
    (case a_TooMany___init__ => k_is)
    (case l_TooMany___init__ => k_is)
    (case cd2_TooMany___init__ => k_is)
    (case kp_TooMany___init__ => k_is)
    (case a_NoDoor___init__ => k_is)
    (case l_NoDoor___init__ => k_is)
    (case cd2_NoDoor___init__ => k_is)
    (case kp_NoDoor___init__ => k_is)
    (case a_NoBegin___init__ => k_is)
    (case l_NoBegin___init__ => k_is)
    (case cd2_NoBegin___init__ => k_is)
    (case kp_NoBegin___init__ => k_is)
    (case a_NoOwner___init__ => k_is)
    (case l_NoOwner___init__ => k_is)
    (case cd2_NoOwner___init__ => k_is)
    (case kp_NoOwner___init__ => k_is)
    (case a_NoRow___init__ => k_is)
    (case l_NoRow___init__ => k_is)
    (case cd2_NoRow___init__ => k_is)
    (case kp_NoRow___init__ => k_is)
    (case a_NoRule___init__ => k_is)
    (case l_NoRule___init__ => k_is)
    (case cd2_NoRule___init__ => k_is)
    (case kp_NoRule___init__ => k_is)
    (case a_NoDivisor___init__ => k_is)
    (case l_NoDivisor___init__ => k_is)
    (case cd2_NoDivisor___init__ => k_is)
    (case kp_NoDivisor___init__ => k_is)
    (case a_Waits___init__ => k_is)
    (case l_Waits___init__ => k_is)
    (case cd2_Waits___init__ => k_is)
    (case kp_Waits___init__ => k_is)
    (case a_Over___init__ => k_is)
    (case l_Over___init__ => k_is)
    (case cd2_Over___init__ => k_is)
    (case kp_Over___init__ => k_is)
    (case a_Busy___init__ => k_is)
    (case l_Busy___init__ => k_is)
    (case cd2_Busy___init__ => k_is)
    (case kp_Busy___init__ => k_is)
    (case l_law_values => k_is)
    (case cd2_law_values => k_is)
    (case kp_law_values => k_is)
    (case l_law_bases => k_is)
    (case cd2_law_bases => k_is)
    (case kp_law_bases => k_is)
    (case l_law_first => k_is)
    (case cd2_law_first => k_is)
    (case kp_law_first => k_is)
    (case l_law_row => k_is)
    (case cd2_law_row => k_is)
    (case kp_law_row => k_is)
    (case l_law_second => k_is)
    (case cd2_law_second => k_is)
    (case kp_law_second => k_is)
    (case l_law => k_is)
    (case cd2_law => k_is)
    (case kp_law => k_is)
    (case z_LookupError => k_is)
    (case z_RuntimeError => k_is)
    (case z_ValueError => k_is)
    (case z_ZeroDivisionError => k_is)
    (case z_abs => k_is)
    (case z_bool => k_is)
    (case z_int => k_is)
    (case z_isinstance => k_is)
    (case z_len => k_is)
    (case z_list => k_is)
    (case z_range => k_is)
    (case xl_CountsheldError => k_is)
    (case xr_CountsheldError => first | rfl | decide +kernel)
    (case xk_CountsheldError => k_is)
    (case xb_CountsheldError => k_is)
    (case xq_CountsheldError => k_exc)
    (case xl_NotKept => k_is)
    (case xr_NotKept => first | rfl | decide +kernel)
    (case xk_NotKept => k_is)
    (case xb_NotKept => k_is)
    (case xq_NotKept => k_exc)
    (case xl_Unfit => k_is)
    (case xr_Unfit => first | rfl | decide +kernel)
    (case xs_Unfit => k_is)
    (case xb_Unfit => k_is)
    (case xt_Unfit => k_is)
    (case xk_Unfit => k_is)
    (case xi_Unfit => k_is)
    (case xn_Unfit_door => k_is)
    (case xn_Unfit_line => k_is)
    (case xl_Refused => k_is)
    (case xs_Refused => k_is)
    (case xb_Refused => k_is)
    (case xt_Refused => k_is)
    (case xk_Refused => k_is)
    (case xi_Refused => k_is)
    (case xn_Refused_door => k_is)
    (case xn_Refused_line => k_is)
    (case xn_Refused_why => k_is)
    (case xl_BadWord => k_is)
    (case xr_BadWord => first | rfl | decide +kernel)
    (case xs_BadWord => k_is)
    (case xb_BadWord => k_is)
    (case xt_BadWord => k_is)
    (case xk_BadWord => k_is)
    (case xi_BadWord => k_is)
    (case xn_BadWord_word => k_is)
    (case xl_BadNumber => k_is)
    (case xr_BadNumber => first | rfl | decide +kernel)
    (case xs_BadNumber => k_is)
    (case xb_BadNumber => k_is)
    (case xt_BadNumber => k_is)
    (case xk_BadNumber => k_is)
    (case xi_BadNumber => k_is)
    (case xn_BadNumber_number => k_is)
    (case xl_BadCounts => k_is)
    (case xr_BadCounts => first | rfl | decide +kernel)
    (case xs_BadCounts => k_is)
    (case xb_BadCounts => k_is)
    (case xt_BadCounts => k_is)
    (case xk_BadCounts => k_is)
    (case xi_BadCounts => k_is)
    (case xn_BadCounts_at => k_is)
    (case xl_BadRule => k_is)
    (case xr_BadRule => first | rfl | decide +kernel)
    (case xs_BadRule => k_is)
    (case xb_BadRule => k_is)
    (case xt_BadRule => k_is)
    (case xk_BadRule => k_is)
    (case xi_BadRule => k_is)
    (case xn_BadRule_what => k_is)
    (case xl_BadRules => k_is)
    (case xr_BadRules => first | rfl | decide +kernel)
    (case xs_BadRules => k_is)
    (case xb_BadRules => k_is)
    (case xt_BadRules => k_is)
    (case xk_BadRules => k_is)
    (case xi_BadRules => k_is)
    (case xn_BadRules_what => k_is)
    (case xl_BadDoor => k_is)
    (case xr_BadDoor => first | rfl | decide +kernel)
    (case xs_BadDoor => k_is)
    (case xb_BadDoor => k_is)
    (case xt_BadDoor => k_is)
    (case xk_BadDoor => k_is)
    (case xi_BadDoor => k_is)
    (case xn_BadDoor_at => k_is)
    (case xl_BadDesk => k_is)
    (case xr_BadDesk => first | rfl | decide +kernel)
    (case xs_BadDesk => k_is)
    (case xb_BadDesk => k_is)
    (case xt_BadDesk => k_is)
    (case xk_BadDesk => k_is)
    (case xi_BadDesk => k_is)
    (case xn_BadDesk_what => k_is)
    (case xl_BadText => k_is)
    (case xr_BadText => first | rfl | decide +kernel)
    (case xs_BadText => k_is)
    (case xb_BadText => k_is)
    (case xt_BadText => k_is)
    (case xk_BadText => k_is)
    (case xi_BadText => k_is)
    (case xn_BadText_at => k_is)
    (case xl_NotLoose => k_is)
    (case xr_NotLoose => first | rfl | decide +kernel)
    (case xs_NotLoose => k_is)
    (case xb_NotLoose => k_is)
    (case xt_NotLoose => k_is)
    (case xk_NotLoose => k_is)
    (case xi_NotLoose => k_is)
    (case xn_NotLoose_kind => k_is)
    (case xl_Named => k_is)
    (case xr_Named => first | rfl | decide +kernel)
    (case xs_Named => k_is)
    (case xb_Named => k_is)
    (case xt_Named => k_is)
    (case xk_Named => k_is)
    (case xi_Named => k_is)
    (case xn_Named_row => k_is)
    (case xl_Full => k_is)
    (case xr_Full => first | rfl | decide +kernel)
    (case xs_Full => k_is)
    (case xb_Full => k_is)
    (case xt_Full => k_is)
    (case xk_Full => k_is)
    (case xi_Full => k_is)
    (case xn_Full_owner => k_is)
    (case xl_NoPick => k_is)
    (case xr_NoPick => first | rfl | decide +kernel)
    (case xs_NoPick => k_is)
    (case xb_NoPick => k_is)
    (case xt_NoPick => k_is)
    (case xk_NoPick => k_is)
    (case xi_NoPick => k_is)
    (case xn_NoPick_pick => k_is)
    (case xl_Broken => k_is)
    (case xr_Broken => first | rfl | decide +kernel)
    (case xs_Broken => k_is)
    (case xb_Broken => k_is)
    (case xt_Broken => k_is)
    (case xk_Broken => k_is)
    (case xi_Broken => k_is)
    (case xn_Broken_rules => k_is)
    (case xl_BadHistory => k_is)
    (case xr_BadHistory => first | rfl | decide +kernel)
    (case xs_BadHistory => k_is)
    (case xb_BadHistory => k_is)
    (case xt_BadHistory => k_is)
    (case xk_BadHistory => k_is)
    (case xi_BadHistory => k_is)
    (case xn_BadHistory_at => k_is)
    (case xl_BadStanding => k_is)
    (case xr_BadStanding => first | rfl | decide +kernel)
    (case xs_BadStanding => k_is)
    (case xb_BadStanding => k_is)
    (case xt_BadStanding => k_is)
    (case xk_BadStanding => k_is)
    (case xi_BadStanding => k_is)
    (case xn_BadStanding_standing => k_is)
    (case xl_BadWay => k_is)
    (case xr_BadWay => first | rfl | decide +kernel)
    (case xs_BadWay => k_is)
    (case xb_BadWay => k_is)
    (case xt_BadWay => k_is)
    (case xk_BadWay => k_is)
    (case xi_BadWay => k_is)
    (case xn_BadWay_at => k_is)
    (case xl_NoWay => k_is)
    (case xr_NoWay => first | rfl | decide +kernel)
    (case xs_NoWay => k_is)
    (case xb_NoWay => k_is)
    (case xt_NoWay => k_is)
    (case xk_NoWay => k_is)
    (case xi_NoWay => k_is)
    (case xn_NoWay_standing => k_is)
    (case xl_TooMany => k_is)
    (case xr_TooMany => first | rfl | decide +kernel)
    (case xs_TooMany => k_is)
    (case xb_TooMany => k_is)
    (case xt_TooMany => k_is)
    (case xk_TooMany => k_is)
    (case xi_TooMany => k_is)
    (case xn_TooMany_what => k_is)
    (case xl_NoDoor => k_is)
    (case xs_NoDoor => k_is)
    (case xb_NoDoor => k_is)
    (case xt_NoDoor => k_is)
    (case xk_NoDoor => k_is)
    (case xi_NoDoor => k_is)
    (case xn_NoDoor_name => k_is)
    (case xl_NoBegin => k_is)
    (case xs_NoBegin => k_is)
    (case xb_NoBegin => k_is)
    (case xt_NoBegin => k_is)
    (case xk_NoBegin => k_is)
    (case xi_NoBegin => k_is)
    (case xn_NoBegin_index => k_is)
    (case xl_NoOwner => k_is)
    (case xs_NoOwner => k_is)
    (case xb_NoOwner => k_is)
    (case xt_NoOwner => k_is)
    (case xk_NoOwner => k_is)
    (case xi_NoOwner => k_is)
    (case xn_NoOwner_owner => k_is)
    (case xl_NoRow => k_is)
    (case xs_NoRow => k_is)
    (case xb_NoRow => k_is)
    (case xt_NoRow => k_is)
    (case xk_NoRow => k_is)
    (case xi_NoRow => k_is)
    (case xn_NoRow_row => k_is)
    (case xl_NoRule => k_is)
    (case xs_NoRule => k_is)
    (case xb_NoRule => k_is)
    (case xt_NoRule => k_is)
    (case xk_NoRule => k_is)
    (case xi_NoRule => k_is)
    (case xn_NoRule_rule => k_is)
    (case xl_NoDivisor => k_is)
    (case xs_NoDivisor => k_is)
    (case xb_NoDivisor => k_is)
    (case xt_NoDivisor => k_is)
    (case xk_NoDivisor => k_is)
    (case xi_NoDivisor => k_is)
    (case xn_NoDivisor_word => k_is)
    (case xl_Waits => k_is)
    (case xs_Waits => k_is)
    (case xb_Waits => k_is)
    (case xt_Waits => k_is)
    (case xk_Waits => k_is)
    (case xi_Waits => k_is)
    (case xn_Waits_owner => k_is)
    (case xl_Over => k_is)
    (case xs_Over => k_is)
    (case xb_Over => k_is)
    (case xt_Over => k_is)
    (case xk_Over => k_is)
    (case xi_Over => k_is)
    (case xn_Over_number => k_is)
    (case xl_Busy => k_is)
    (case xs_Busy => k_is)
    (case xb_Busy => k_is)
    (case xt_Busy => k_is)
    (case xk_Busy => k_is)
    (case xi_Busy => k_is)
    (case xn_Busy_owner => k_is)
    (case cnd => decide +kernel)
    (case xg_Unfit => k_is)
    (case xh_Unfit => k_is)
    (case xd_Unfit => k_is)
    (case xa_Unfit => k_is)
    (case xm_Unfit => k_is)
    (case xg_Refused => k_is)
    (case xh_Refused => k_is)
    (case xd_Refused => k_is)
    (case xa_Refused => k_is)
    (case xm_Refused => k_is)
    (case xg_BadWord => k_is)
    (case xh_BadWord => k_is)
    (case xd_BadWord => k_is)
    (case xa_BadWord => k_is)
    (case xm_BadWord => k_is)
    (case xg_BadNumber => k_is)
    (case xh_BadNumber => k_is)
    (case xd_BadNumber => k_is)
    (case xa_BadNumber => k_is)
    (case xm_BadNumber => k_is)
    (case xg_BadCounts => k_is)
    (case xh_BadCounts => k_is)
    (case xd_BadCounts => k_is)
    (case xa_BadCounts => k_is)
    (case xm_BadCounts => k_is)
    (case xg_BadRule => k_is)
    (case xh_BadRule => k_is)
    (case xd_BadRule => k_is)
    (case xa_BadRule => k_is)
    (case xm_BadRule => k_is)
    (case xg_BadRules => k_is)
    (case xh_BadRules => k_is)
    (case xd_BadRules => k_is)
    (case xa_BadRules => k_is)
    (case xm_BadRules => k_is)
    (case xg_BadDoor => k_is)
    (case xh_BadDoor => k_is)
    (case xd_BadDoor => k_is)
    (case xa_BadDoor => k_is)
    (case xm_BadDoor => k_is)
    (case xg_BadDesk => k_is)
    (case xh_BadDesk => k_is)
    (case xd_BadDesk => k_is)
    (case xa_BadDesk => k_is)
    (case xm_BadDesk => k_is)
    (case xg_BadText => k_is)
    (case xh_BadText => k_is)
    (case xd_BadText => k_is)
    (case xa_BadText => k_is)
    (case xm_BadText => k_is)
    (case xg_NotLoose => k_is)
    (case xh_NotLoose => k_is)
    (case xd_NotLoose => k_is)
    (case xa_NotLoose => k_is)
    (case xm_NotLoose => k_is)
    (case xg_Named => k_is)
    (case xh_Named => k_is)
    (case xd_Named => k_is)
    (case xa_Named => k_is)
    (case xm_Named => k_is)
    (case xg_Full => k_is)
    (case xh_Full => k_is)
    (case xd_Full => k_is)
    (case xa_Full => k_is)
    (case xm_Full => k_is)
    (case xg_NoPick => k_is)
    (case xh_NoPick => k_is)
    (case xd_NoPick => k_is)
    (case xa_NoPick => k_is)
    (case xm_NoPick => k_is)
    (case xg_Broken => k_is)
    (case xh_Broken => k_is)
    (case xd_Broken => k_is)
    (case xa_Broken => k_is)
    (case xm_Broken => k_is)
    (case xg_BadHistory => k_is)
    (case xh_BadHistory => k_is)
    (case xd_BadHistory => k_is)
    (case xa_BadHistory => k_is)
    (case xm_BadHistory => k_is)
    (case xg_BadStanding => k_is)
    (case xh_BadStanding => k_is)
    (case xd_BadStanding => k_is)
    (case xa_BadStanding => k_is)
    (case xm_BadStanding => k_is)
    (case xg_BadWay => k_is)
    (case xh_BadWay => k_is)
    (case xd_BadWay => k_is)
    (case xa_BadWay => k_is)
    (case xm_BadWay => k_is)
    (case xg_NoWay => k_is)
    (case xh_NoWay => k_is)
    (case xd_NoWay => k_is)
    (case xa_NoWay => k_is)
    (case xm_NoWay => k_is)
    (case xg_TooMany => k_is)
    (case xh_TooMany => k_is)
    (case xd_TooMany => k_is)
    (case xa_TooMany => k_is)
    (case xm_TooMany => k_is)
    (case xg_NoDoor => k_is)
    (case xh_NoDoor => k_is)
    (case xd_NoDoor => k_is)
    (case xa_NoDoor => k_is)
    (case xm_NoDoor => k_is)
    (case xg_NoBegin => k_is)
    (case xh_NoBegin => k_is)
    (case xd_NoBegin => k_is)
    (case xa_NoBegin => k_is)
    (case xm_NoBegin => k_is)
    (case xg_NoOwner => k_is)
    (case xh_NoOwner => k_is)
    (case xd_NoOwner => k_is)
    (case xa_NoOwner => k_is)
    (case xm_NoOwner => k_is)
    (case xg_NoRow => k_is)
    (case xh_NoRow => k_is)
    (case xd_NoRow => k_is)
    (case xa_NoRow => k_is)
    (case xm_NoRow => k_is)
    (case xg_NoRule => k_is)
    (case xh_NoRule => k_is)
    (case xd_NoRule => k_is)
    (case xa_NoRule => k_is)
    (case xm_NoRule => k_is)
    (case xg_NoDivisor => k_is)
    (case xh_NoDivisor => k_is)
    (case xd_NoDivisor => k_is)
    (case xa_NoDivisor => k_is)
    (case xm_NoDivisor => k_is)
    (case xg_Waits => k_is)
    (case xh_Waits => k_is)
    (case xd_Waits => k_is)
    (case xa_Waits => k_is)
    (case xm_Waits => k_is)
    (case xg_Over => k_is)
    (case xh_Over => k_is)
    (case xd_Over => k_is)
    (case xa_Over => k_is)
    (case xm_Over => k_is)
    (case xg_Busy => k_is)
    (case xh_Busy => k_is)
    (case xd_Busy => k_is)
    (case xa_Busy => k_is)
    (case xm_Busy => k_is)
    (case xg_NotKept => k_is)
    (case xh_NotKept => k_is)
    (case xd_NotKept => k_is)
    (case xa_NotKept => k_is)
    (case xm_NotKept => k_is)
    (case xcn => k_is)
    (case xct => k_is)
