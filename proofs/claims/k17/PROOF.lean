import PyProof.Rows.All
import Wide.All
import OpenK.AllK
import Wide.FinOn
import HandS.ForMost
import HandS.Wide
import HandS.WideMore
import HandS.IsInst
import HandS.Flow
import HandS.Zip
import HandS.RaiseMore
import KE.GoesEnum
import HandS.ClsMeth
import HandS.Star
import KE.RegKIsAll
import HandS.Replace
import KE.SortKeyHeap
import HandS.SortKw
import HandS.DictComp
import HandS.ListItems
import HandS.SlotsOwn
import HandS.Sort
import HandS.Property
import PyProof.SumAny
import HandS.FStr
import HandS.Text
import HandS.ExcInit
import HandS.ExcField
import HandS.TryOnly
import HandS.WordsExc
import KE.KExcIs
import HandS.ExcIs
import HandS.MakeKwOnly
import PyProof.ListStr
import HandS.Conv
import PyProof.ExcBaseAll.ZeroDivisionError
import PyProof.ExcBaseAll.LookupError
import PyProof.ExcBaseAll.RuntimeError
import KE.GoesMore
import PyProof.StrLawsTight
import PyProof.SliceList
import KE.KStrOpen
import PySem.Challenge.RW_countsheld_k17_rules_not_read
set_option Elab.async false
set_option linter.all false
set_option maxRecDepth 100000
set_option maxHeartbeats 40000000
namespace Y
open PySem L2
/-! assertions about the abstract heap, held side by side -/

/-- tuples stay -/
def Tx (H H' : Hp) : Prop := ∀ b xs, H b = some (.tup xs) → H' b = some (.tup xs)
theorem Tx.refl (H : Hp) : Tx H H := fun _ _ e => e
theorem Tx.trans {H H1 H2 : Hp} (a : Tx H H1) (b : Tx H1 H2) : Tx H H2 := fun x y e => b x y (a x y e)
theorem tx_new {H : Hp} {p : Addr} {o : HO} (h : H p = none) : Tx H (upd H p o) := fun b xs e => by
  rw [upd_ne (ne_of_none e h)]
  exact e
theorem tx_upd {H : Hp} {p : Addr} {o u : HO} (h : H p = some u) (hu : ∀ xs, u ≠ .tup xs) : Tx H (upd H p o) := fun b xs e => by
  rw [upd_ne (fun z => hu xs (by rw [z, h] at e; exact Option.some.inj e))]
  exact e

/-- an assertion: its own addresses, the heap -/
structure Asn where
  h : (Addr → Prop) → Hp → Prop
  al : ∀ f H, h f H → ∀ a, f a → ∃ o, H a = some o
  st : ∀ f H H', h f H → (∀ a, f a → H' a = H a) → Tx H H' → h f H'

inductive SepF : List Asn → (Addr → Prop) → Hp → Prop
  | nil {H} : SepF [] (fun _ => False) H
  | cons {A l f g H} : A.h f H → SepF l g H → (∀ a, f a → ¬ g a) → SepF (A :: l) (fun a => f a ∨ g a) H
def Sep (l : List Asn) (H : Hp) : Prop := ∃ g, SepF l g H

theorem SepF.al {l : List Asn} {g : Addr → Prop} {H : Hp} (S : SepF l g H) : ∀ a, g a → ∃ o, H a = some o := by
  induction S with
  | nil => intro a z; exact z.elim
  | cons h _ _ ih => intro a z; exact z.elim (fun z => Asn.al _ _ _ h a z) (ih a)
theorem SepF.st {l : List Asn} {g : Addr → Prop} {H H' : Hp} (S : SepF l g H) (k : ∀ a, g a → H' a = H a) (t : Tx H H') : SepF l g H' := by
  induction S with
  | nil => exact .nil
  | cons h _ d ih => exact .cons (Asn.st _ _ _ _ h (fun a z => k a (.inl z)) t) (ih (fun a z => k a (.inr z)) t) d
theorem SepF.iff {l : List Asn} {g g' : Addr → Prop} {H : Hp} (S : SepF l g H) (e : ∀ a, g a ↔ g' a) : SepF l g' H := by
  have : g = g' := funext fun a => propext (e a)
  rw [← this]; exact S
theorem Sep.nil {H : Hp} : Sep [] H := ⟨_, .nil⟩
/-- the i-th to the front -/
theorem SepF.pick {l : List Asn} {g : Addr → Prop} {H : Hp} (S : SepF l g H) : ∀ {i : Nat} {A : Asn}, l[i]? = some A → SepF (A :: l.eraseIdx i) g H := by
  induction S with
  | nil => intro i A e; cases e
  | @cons B l f g H h S d ih =>
    intro i A e
    cases i with
    | zero => cases e; exact .cons h S d
    | succ i =>
      have q := ih (i := i) (A := A) e
      cases q with
      | @cons _ _ f2 g2 _ h2 S2 d2 =>
        refine SepF.iff (.cons h2 (.cons h S2 (fun a z w => d a z (.inr w))) (fun a z w => w.elim (fun w => d a w (.inl z)) (d2 a z))) fun a => ?_
        constructor
        · rintro (z | z | z)
          · exact .inr (.inl z)
          · exact .inl z
          · exact .inr (.inr z)
        · rintro (z | z | z)
          · exact .inr (.inl z)
          · exact .inl z
          · exact .inr (.inr z)
theorem Sep.pick {l : List Asn} {H : Hp} {i : Nat} {A : Asn} (S : Sep l H) (e : l[i]? = some A) : Sep (A :: l.eraseIdx i) H := S.imp fun _ q => q.pick e
theorem SepF.put {B : Asn} {l : List Asn} {f : Addr → Prop} {H : Hp} : ∀ {i : Nat} {l0 : List Asn} {g : Addr → Prop}, SepF l0 g H → i < l.length → l0 = l.eraseIdx i → B.h f H → (∀ a, f a → ¬ g a) → ∃ g', SepF (l.set i B) g' H ∧ ∀ a, g' a ↔ (f a ∨ g a) := by
  induction l with
  | nil => intro i l0 g S hi e hB d; cases hi
  | cons A l ih =>
    intro i l0 g S hi e hB d
    cases i with
    | zero =>
      rw [e] at S
      exact ⟨_, .cons hB S d, fun _ => Iff.rfl⟩
    | succ i =>
      rw [e] at S
      cases S with
      | @cons _ _ f2 g2 _ h2 S2 d2 =>
        obtain ⟨g', S', hg⟩ := ih (i := i) S2 (Nat.lt_of_succ_lt_succ hi) rfl hB (fun a z w => d a z (.inr w))
        refine ⟨_, .cons h2 S' (fun a z w => ((hg a).1 w).elim (fun w => d a w (.inl z)) (d2 a z)), fun a => ?_⟩
        constructor
        · rintro (z | z)
          · exact .inr (.inl z)
          · exact ((hg a).1 z).elim .inl (fun z => .inr (.inr z))
        · rintro (z | z | z)
          · exact .inr ((hg a).2 (.inl z))
          · exact .inl z
          · exact .inr ((hg a).2 (.inr z))
theorem get_lt {α : Type} {l : List α} {i : Nat} {x : α} (e : l[i]? = some x) : i < l.length := (List.getElem?_eq_some_iff.mp e).1
/-- the i-th put back -/
theorem Sep.back {l : List Asn} {H : Hp} {i : Nat} {A B : Asn} (e : l[i]? = some A) (S : Sep (B :: l.eraseIdx i) H) : Sep (l.set i B) H := by
  obtain ⟨g, S⟩ := S
  cases S with
  | cons h S d =>
    obtain ⟨g', q, _⟩ := SepF.put (l := l) (i := i) S (get_lt e) rfl h d
    exact ⟨g', q⟩
theorem Sep.tail {A : Asn} {l : List Asn} {H : Hp} (S : Sep (A :: l) H) : Sep l H := by
  obtain ⟨g, S⟩ := S
  cases S with
  | cons _ S _ => exact ⟨_, S⟩
theorem Sep.head {A : Asn} {l : List Asn} {H : Hp} (S : Sep (A :: l) H) : ∃ f, A.h f H := by
  obtain ⟨g, S⟩ := S
  cases S with
  | cons h _ _ => exact ⟨_, h⟩
theorem Sep.get {l : List Asn} {H : Hp} {i : Nat} {A : Asn} (S : Sep l H) (e : l[i]? = some A) : ∃ f, A.h f H := (S.pick e).head
theorem Sep.mono {A B : Asn} {l : List Asn} {H : Hp} (k : ∀ f, A.h f H → ∃ f', B.h f' H ∧ ∀ a, f' a → f a) (S : Sep (A :: l) H) : Sep (B :: l) H := by
  obtain ⟨g, S⟩ := S
  cases S with
  | cons h S d =>
    obtain ⟨f', h', hf⟩ := k _ h
    exact ⟨_, .cons h' S fun a z => d a (hf a z)⟩
def reord : List Nat → List Asn → List Asn
  | [], l => l
  | i :: is, l => match l[i]? with
    | some A => A :: reord is (l.eraseIdx i)
    | none => []
theorem SepF.reord : ∀ (is : List Nat) {l : List Asn} {g : Addr → Prop} {H : Hp}, SepF l g H → ∃ g', SepF (Y.reord is l) g' H ∧ ∀ a, g' a → g a
  | [], l, g, H, S => ⟨g, S, fun _ z => z⟩
  | i :: is, l, g, H, S => by
    unfold Y.reord
    cases e : l[i]? with
    | none => exact ⟨_, .nil, fun _ z => z.elim⟩
    | some A =>
      have q := S.pick e
      cases q with
      | cons h S d =>
        obtain ⟨g', S', k⟩ := SepF.reord is S
        exact ⟨_, .cons h S' (fun a z w => d a z (k a w)), fun a z => z.elim .inl fun z => .inr (k a z)⟩
theorem Sep.reord {l : List Asn} {H : Hp} (S : Sep l H) (is : List Nat) : Sep (Y.reord is l) H := by
  obtain ⟨g, S⟩ := S
  obtain ⟨g', S', _⟩ := S.reord is
  exact ⟨g', S'⟩
/-- nothing owned: what is true for good -/
def pure' (P : Prop) : Asn := ⟨fun f _ => P ∧ ∀ a, ¬ f a, fun _ _ h a z => (h.2 a z).elim, fun _ _ _ h _ _ => h⟩

/-- an object that may change -/
def At (p : Addr) (o : HO) : Asn := ⟨fun f H => H p = some o ∧ ∀ a, f a ↔ a = p, fun _ _ h a z => ⟨o, by rw [(h.2 a).1 z]; exact h.1⟩, fun _ _ _ h k _ => ⟨by rw [k p ((h.2 p).2 rfl)]; exact h.1, h.2⟩⟩
/-- a tuple -/
def Tp (p : Addr) (xs : List V) : Asn := ⟨fun f H => H p = some (.tup xs) ∧ ∀ a, ¬ f a, fun _ _ h a z => (h.2 a z).elim, fun _ _ _ h _ t => ⟨t _ _ h.1, h.2⟩⟩
section
variable {l : List Asn} {H : Hp} {i : Nat} {p : Addr} {o o' : HO} {xs : List V} {A : Asn}
theorem Sep.at (S : Sep l H) (e : l[i]? = some (At p o)) : H p = some o := by
  obtain ⟨f, h⟩ := S.get e
  exact h.1
theorem Sep.tp (S : Sep l H) (e : l[i]? = some (Tp p xs)) : H p = some (.tup xs) := by
  obtain ⟨f, h⟩ := S.get e
  exact h.1
theorem Sep.new (S : Sep l H) (h : H p = none) : Sep (At p o :: l) (upd H p o) := by
  obtain ⟨g, S⟩ := S
  have hg : ∀ a, g a → a ≠ p := fun a z q => by
    obtain ⟨u, e⟩ := S.al a z
    rw [q, h] at e
    cases e
  exact ⟨_, .cons (f := fun a => a = p) ⟨upd_same, fun _ => Iff.rfl⟩ (S.st (fun a z => upd_ne (hg a z)) (tx_new h)) fun a z w => hg a w z⟩
theorem Sep.newT (S : Sep l H) (h : H p = none) : Sep (Tp p xs :: l) (upd H p (.tup xs)) := by
  obtain ⟨g, S⟩ := S
  have hg : ∀ a, g a → a ≠ p := fun a z q => by
    obtain ⟨u, e⟩ := S.al a z
    rw [q, h] at e
    cases e
  exact ⟨_, .cons (f := fun _ => False) ⟨upd_same, fun _ z => z⟩ (S.st (fun a z => upd_ne (hg a z)) (tx_new h)) fun a z => z.elim⟩
theorem Sep.upd0 (S : Sep (At p o :: l) H) (ho : ∀ xs, o ≠ .tup xs) : Sep (At p o' :: l) (upd H p o') := by
  obtain ⟨g, S⟩ := S
  cases S with
  | @cons _ _ f g _ h S d =>
    have hg : ∀ a, g a → a ≠ p := fun a z q => d a ((h.2 a).2 q) z
    exact ⟨_, .cons (f := f) ⟨upd_same, h.2⟩ (S.st (fun a z => upd_ne (hg a z)) (tx_upd h.1 ho)) d⟩
theorem Sep.upd (S : Sep l H) (e : l[i]? = some (At p o)) (ho : ∀ xs, o ≠ .tup xs) : Sep (l.set i (At p o')) (upd H p o') :=
  Sep.back e ((S.pick e).upd0 ho)
end
/-- several for one -/
def Pk (l : List Asn) : Asn := ⟨fun f H => SepF l f H, fun _ _ h => h.al, fun _ _ _ h k t => h.st k t⟩
theorem SepF.app : ∀ {l m : List Asn} {f g : Addr → Prop} {H : Hp}, SepF l f H → SepF m g H → (∀ a, f a → ¬ g a) → SepF (l ++ m) (fun a => f a ∨ g a) H
  | _, m, _, g, H, .nil, T, _ => T.iff fun a => ⟨.inr, fun z => z.elim (fun z => z.elim) id⟩
  | _, m, _, g, H, .cons h S d, T, k => SepF.iff (.cons h (S.app T fun a z => k a (.inr z)) fun a z w => w.elim (d a z) (k a (.inl z))) fun a => by
      constructor
      · rintro (z | z | z)
        · exact .inl (.inl z)
        · exact .inl (.inr z)
        · exact .inr z
      · rintro ((z | z) | z)
        · exact .inl z
        · exact .inr (.inl z)
        · exact .inr (.inr z)
theorem SepF.cut : ∀ {l m : List Asn} {g : Addr → Prop} {H : Hp}, SepF (l ++ m) g H → ∃ f1 f2, SepF l f1 H ∧ SepF m f2 H ∧ (∀ a, f1 a → ¬ f2 a) ∧ ∀ a, g a ↔ (f1 a ∨ f2 a)
  | [], m, g, H, S => ⟨_, g, .nil, S, fun _ z => z.elim, fun a => ⟨.inr, fun z => z.elim (fun z => z.elim) id⟩⟩
  | A :: l, m, g, H, S0 => by
    have S1 : SepF (A :: (l ++ m)) g H := S0
    cases S1 with
    | @cons _ _ f g2 _ h S d =>
      obtain ⟨f1, f2, S1, S2, k, e⟩ := SepF.cut S
      refine ⟨_, f2, .cons h S1 (fun a z w => d a z ((e a).2 (.inl w))), S2, fun a z w => z.elim (fun z => d a z ((e a).2 (.inr w))) (fun z => k a z w), fun a => ?_⟩
      show (f a ∨ g2 a) ↔ _
      rw [e a]
      constructor
      · rintro (z | z | z)
        · exact .inl (.inl z)
        · exact .inl (.inr z)
        · exact .inr z
      · rintro ((z | z) | z)
        · exact .inl z
        · exact .inr (.inl z)
        · exact .inr (.inr z)
theorem Sep.open' {l m : List Asn} {H : Hp} (S : Sep (Pk l :: m) H) : Sep (l ++ m) H := by
  obtain ⟨g, S⟩ := S
  cases S with
  | cons h S d => exact ⟨_, SepF.app h S d⟩
theorem Sep.close' {l m : List Asn} {H : Hp} (S : Sep (l ++ m) H) : Sep (Pk l :: m) H := by
  obtain ⟨g, S⟩ := S
  obtain ⟨f1, f2, S1, S2, k, e⟩ := S.cut
  exact ⟨_, .cons S1 S2 k⟩
/-- for some x -/
def Exs {α : Type} (A : α → Asn) : Asn := ⟨fun f H => ∃ x, (A x).h f H, fun _ _ ⟨x, h⟩ => (A x).al _ _ h, fun _ _ _ ⟨x, h⟩ k t => ⟨x, (A x).st _ _ _ h k t⟩⟩
theorem Sep.ex {α : Type} {A : α → Asn} {l : List Asn} {H : Hp} (S : Sep (Exs A :: l) H) : ∃ x, Sep (A x :: l) H := by
  obtain ⟨g, S⟩ := S
  cases S with
  | cons h S d =>
    obtain ⟨x, h⟩ := h
    exact ⟨x, _, .cons h S d⟩
theorem Sep.ex' {α : Type} {A : α → Asn} {l : List Asn} {H : Hp} {x : α} (S : Sep (A x :: l) H) : Sep (Exs A :: l) H :=
  Sep.mono (fun f h => ⟨f, ⟨x, h⟩, fun _ z => z⟩) S
theorem Sep.pure {P : Prop} {l : List Asn} {H : Hp} (S : Sep (pure' P :: l) H) : P ∧ Sep l H := ⟨by obtain ⟨f, h⟩ := S.head; exact h.1, S.tail⟩
theorem Sep.pure_in {P : Prop} {l : List Asn} {H : Hp} (p : P) (S : Sep l H) : Sep (pure' P :: l) H := by
  obtain ⟨g, S⟩ := S
  exact ⟨_, .cons (f := fun _ => False) ⟨p, fun _ z => z⟩ S fun _ z => z.elim⟩

/-! operations by the values they meet; one step of a reading a lemma -/

/-! ### rules by or -/
section
variable {X : Cx}
theorem OpR.or {f : Value → Value → Sem Value} {r1 r2 : R2} (h1 : OpR X f r1) (h2 : OpR X f r2) : OpR X f (fun x y H Q => r1 x y H Q ∨ r2 x y H Q) :=
  fun pins s σ H x y v u Q I rx ry h => h.elim (h1 pins s σ H x y v u Q I rx ry) (h2 pins s σ H x y v u Q I rx ry)
theorem CallR.or {f : Value} {r1 r2 : List V → Hp → VK → Prop} (h1 : CallR X f r1) (h2 : CallR X f r2) : CallR X f (fun x H Q => r1 x H Q ∨ r2 x H Q) :=
  fun pins s σ H x u Q I rx h => h.elim (h1 pins s σ H x u Q I rx) (h2 pins s σ H x u Q I rx)
theorem SlR.or {r1 r2 : V → Option Int → Option Int → Hp → VK → Prop} (h1 : SlR X r1) (h2 : SlR X r2) : SlR X (fun x a b H Q => r1 x a b H Q ∨ r2 x a b H Q) := by
  intro pins s σ H
  intros
  rename_i h
  rcases h with h | h
  · apply h1 <;> assumption
  · apply h2 <;> assumption
end
def rAddS : R2 := fun x y H Q => ∃ i j, x = V.str i ∧ y = V.str j ∧ i.length + j.length ≤ sizeLine ∧ Q (V.str (i ++ j)) H
def gAdd : R2 := fun x y H Q => rI0 (fun i j => .int (i + j)) x y H Q ∨ (rAddS x y H Q ∨ rCat x y H Q)
def gMinus : R2 := rI0 fun i j => .int (i - j)
def gMul : R2 := fun x y H Q => rI CMul (fun i j => .int (i * j)) x y H Q ∨ rI CMulW (fun i j => .int (i * j)) x y H Q
def gDiv : R2 := rI CDivW fun i j => .int (i / j)
def gMod : R2 := rI (fun _ j => j ≠ 0) fun i j => .int (i.fmod j)
def gPow : R2 := rI CPow fun i j => .int (i ^ j.toNat)
def gNeg : V → Hp → VK → Prop := rU fun i => .int (-i)
def gEq (K : PySem.W.Frag) : R2 := fun x y H Q => rEq x y H Q ∨ rEqD K x y H Q
def gNe (K : PySem.W.Frag) : R2 := fun x y H Q => rNe x y H Q ∨ rNeD K x y H Q
def gLt : R2 := rI0 fun i j => .bl (decide (i < j))
def gLe : R2 := rI0 fun i j => .bl (decide (i ≤ j))
def gGt : R2 := rI0 fun i j => .bl (decide (j < i))
def gGe : R2 := rI0 fun i j => .bl (decide (j ≤ i))
def rInT (neg : Bool) : R2 := fun x y H Q => ∃ c z, x = V.str ⟨#[c]⟩ ∧ y = V.str z ∧ Q (.bl (if neg then !decide (c ∈ z.cps.toList) else decide (c ∈ z.cps.toList))) H
def gIn (K : PySem.W.Frag) (neg : Bool) : R2 := fun x y H Q => rIn K neg x y H Q ∨ rInT neg x y H Q
def gIs : R2 := fun x y H Q => y = .non ∧ Q (.bl (decide (x = .non))) H
def gIsN : R2 := fun x y H Q => y = .non ∧ Q (.bl (!decide (x = .non))) H
section
variable {X : Cx}
theorem op_gAdd : OpR X (binaryOp .Add) gAdd := OpR.or op_add (OpR.or op_add_str op_cat)
theorem op_gSub : OpR X (binaryOp .Sub) gMinus := op_sub
theorem op_gMul : OpR X (binaryOp .Mult) gMul := OpR.or op_mul op_mulW
theorem op_gDiv : OpR X (binaryOp .FloorDiv) gDiv := op_fdivW
theorem op_gMod : OpR X (binaryOp .Mod) gMod := op_modN
theorem op_gPow : OpR X (binaryOp .Pow) gPow := op_pow
theorem un_gNeg : UnR X (unaryOp .USub) gNeg := un_neg
theorem op_gEq {K : PySem.W.Frag} (hK : X.K = K) (hu : X.A.units + 64 < cLine) : OpR X (compareOp .Eq) (gEq K) := by rw [← hK]; exact OpR.or op_eq (op_eqD hu)
theorem op_gNe {K : PySem.W.Frag} (hK : X.K = K) (hu : X.A.units + 64 < cLine) : OpR X (compareOp .NotEq) (gNe K) := by rw [← hK]; exact OpR.or op_ne (op_neD hu)
theorem op_gLt : OpR X (compareOp .Lt) gLt := op_lt
theorem op_gLe : OpR X (compareOp .LtE) gLe := op_le
theorem op_gGt : OpR X (compareOp .Gt) gGt := op_gt
theorem op_gGe : OpR X (compareOp .GtE) gGe := op_ge
theorem op_gIn {K : PySem.W.Frag} (hK : X.K = K) : OpR X (compareOp .In) (gIn K false) := by rw [← hK]; exact OpR.or op_in_seq op_in_sign
theorem op_gNotIn {K : PySem.W.Frag} (hK : X.K = K) : OpR X (compareOp .NotIn) (gIn K true) := by rw [← hK]; exact OpR.or op_notIn_seq op_notIn_sign
theorem op_gIs : OpR X (compareOp .Is) gIs := op_isN
theorem op_gIsN : OpR X (compareOp .IsNot) gIsN := op_notN
end
def gSl (K : PySem.W.Frag) : V → Option Int → Option Int → Hp → VK → Prop := fun x lo hi H Q => rSlL K x lo hi H Q ∨ rSlS x lo hi H Q
theorem sl_g {X : Cx} {K : PySem.W.Frag} (hK : X.K = K) : SlR X (gSl K) := by rw [← hK]; exact SlR.or sl_list sl_str
theorem ix_g {X : Cx} {K : PySem.W.Frag} (hK : X.K = K) : IxR X (rIx K) := by rw [← hK]; exact ix_seq
def tTr (K : PySem.W.Frag) (ta : TE) : TT := fun σ H Q => ta σ H fun x H' => ∃ k, TruV K x H' k ∧ Q k H'
theorem pt_tr {X : Cx} {K : PySem.W.Frag} (hK : X.K = K) {a : Expr} {ta : TE} (h : PE X a ta) (hw : ∀ whole : Sem Value, isTrue a X.env whole = (do let v ← whole; standAt a.pos; holding [v] (truthy v)) := by intro _; rfl) : PT X a (tTr K ta) := by rw [← hK]; exact pt_truth h hw
def gLen (K : PySem.W.Frag) : List V → Hp → VK → Prop := fun xs H Q => (∃ x n, xs = [x] ∧ LenV K x H n ∧ Q (.int n) H) ∨ ∃ d kvs, xs = [.ref d] ∧ H d = some (.dK kvs) ∧ Q (.int kvs.length) H

/-! ### steps -/
section
variable {σ : St} {H : Hp} {i j : Nat} {v x y z : V} {ta tb tc te : TE} {t u : TT} {tr : TA} {Q : VK} {QB : Bool → Hp → Prop} {QA : List V → Hp → Prop} {b : Bool} {r r' : R2} {K : PySem.W.Frag} {m n : Int} {D : Ends} {ts tz : TS} {l : List Asn} {p : Addr} {xs ys : List V}
theorem r_var (h : σ[i]? = some (some v)) (q : Q v H) : tVar i σ H Q := ⟨v, h, q⟩
theorem r_c (q : Q v H) : tC v σ H Q := q
theorem r_op (q : ta σ H fun x H1 => tb σ H1 fun y H2 => r x y H2 Q) : tOp r ta tb σ H Q := q
theorem r_un {r : V → Hp → VK → Prop} (q : ta σ H fun x H1 => r x H1 Q) : tUn r ta σ H Q := q
theorem r_test (q : te σ H fun x H' => ∃ k, x = .bl k ∧ QB k H') : tTest te σ H QB := q
theorem r_B (q : te σ H fun x H' => ∃ k, x = .bl k ∧ QB k H') : tB te σ H QB := q
theorem r_and (q : t σ H fun c H1 => if c = true then u σ H1 QB else QB false H1) : tAnd t u σ H QB := q
theorem r_or (q : t σ H fun c H1 => if c = true then QB true H1 else u σ H1 QB) : tOr t u σ H QB := q
theorem r_not (q : t σ H fun c H1 => QB (!c) H1) : tNot t σ H QB := q
theorem r_andV (q : ta σ H fun x H1 => ∃ c, x = .bl c ∧ if c = true then tb σ H1 Q else Q (.bl false) H1) : tAndV ta tb σ H Q := q
theorem r_orV (q : ta σ H fun x H1 => ∃ c, x = .bl c ∧ if c = true then Q (.bl true) H1 else tb σ H1 Q) : tOrV ta tb σ H Q := q
theorem r_notV (q : ta σ H fun x H1 => ∃ c, x = .bl c ∧ Q (.bl (!c)) H1) : tNotV ta σ H Q := q
theorem r_isbl {P : Bool → Prop} (q : P b) : ∃ k, V.bl b = .bl k ∧ P k := ⟨b, rfl, q⟩
theorem r_ifE (q : t σ H fun c H1 => if c = true then ta σ H1 Q else tb σ H1 Q) : tIf t ta tb σ H Q := q
theorem r_nil (q : QA [] H) : tNil σ H QA := q
theorem r_cons (q : te σ H fun x H1 => tr σ H1 fun xs H2 => QA (x :: xs) H2) : tCons te tr σ H QA := q
theorem r_if {A B : Prop} (h1 : b = true → A) (h2 : b = false → B) : if b = true then A else B := by
  cases b with
  | true => rw [if_pos rfl]; exact h1 rfl
  | false => rw [if_neg Bool.false_ne_true]; exact h2 rfl
theorem r_ifT {A B : Prop} (h : b = true) (h1 : A) : if b = true then A else B := by rw [if_pos h]; exact h1
theorem r_ifF {A B : Prop} (h : b = false) (h1 : B) : if b = true then A else B := by rw [h, if_neg Bool.false_ne_true]; exact h1
theorem r_ifD {c A B : Prop} [Decidable c] (h1 : c → A) (h2 : ¬ c → B) : if decide c = true then A else B := r_if (fun e => h1 (of_decide_eq_true e)) (fun e => h2 (of_decide_eq_false e))
theorem r_ifN {c A B : Prop} [Decidable c] (h1 : ¬ c → A) (h2 : c → B) : if (!decide c) = true then A else B := r_if (fun e => h1 (of_decide_eq_false (by simpa using e))) (fun e => h2 (of_decide_eq_true (by simpa using e)))
theorem r_ifDT {c A B : Prop} [Decidable c] (h : c) (h1 : A) : if decide c = true then A else B := r_ifD (fun _ => h1) fun e => absurd h e
theorem r_ifDF {c A B : Prop} [Decidable c] (h : ¬ c) (h1 : B) : if decide c = true then A else B := r_ifD (fun e => absurd e h) fun _ => h1
theorem r_ifNT {c A B : Prop} [Decidable c] (h : ¬ c) (h1 : A) : if (!decide c) = true then A else B := r_ifN (fun _ => h1) fun e => absurd e h
theorem r_ifNF {c A B : Prop} [Decidable c] (h : c) (h1 : B) : if (!decide c) = true then A else B := r_ifN (fun e => absurd h e) fun _ => h1
theorem r_ifPT {c A B : Prop} [Decidable c] (h : c) (h1 : A) : if c then A else B := by rw [if_pos h]; exact h1
theorem r_chain (q : ta σ H fun x H1 => tb σ H1 fun y H2 => r x y H2 fun z H3 => ∃ k, z = .bl k ∧ (if k = true then tc σ H3 fun w' H4 => r' y w' H4 Q else Q (.bl false) H3)) : tChain r r' ta tb tc σ H Q := q
theorem r_call {sp : Sp} {E : XK} (q : tr σ H fun vs H1 => sp vs H1 Q E) : tCall sp [] E tr σ H Q := by
  have e : (fun (vs : List V) (H1 : Hp) => sp (vs ++ []) H1 Q E) = fun vs H1 => sp vs H1 Q E := by
    funext vs H1
    rw [List.append_nil]
  show tr σ H fun vs H1 => sp (vs ++ []) H1 Q E
  rw [e]
  exact q
theorem r_callD {sp : Sp} {dvs : List V} {E : XK} (q : tr σ H fun vs H1 => sp (vs ++ dvs) H1 Q E) : tCall sp dvs E tr σ H Q := q
theorem r_CB {r : List V → Hp → VK → Prop} (q : tr σ H fun vs H1 => r vs H1 Q) : tCB r tr σ H Q := q
/-- new lists, tuples -/
theorem r_lst (S : ∀ xs H1, QA xs H1 → Prop) : True := trivial
theorem new_eq {H1 : Hp} {o : HO} (S : Sep l H) (hp : H p = none) (hg : upd H p o = H1) : Sep (At p o :: l) H1 := by rw [← hg]; exact S.new hp
theorem newT_eq {H1 : Hp} (S : Sep l H) (hp : H p = none) (hg : upd H p (.tup xs) = H1) : Sep (Tp p xs :: l) H1 := by rw [← hg]; exact S.newT hp
theorem a_lst (S : Sep l H) (hz : xs.length ≤ sizeLine) (k : ∀ p H', Sep (At p (.lst xs) :: l) H' → Q (.ref p) H') : xs.length ≤ sizeLine ∧ ∀ p, H p = none → Q (.ref p) (upd H p (.lst xs)) :=
  ⟨hz, fun p hp => k p _ (S.new hp)⟩
theorem a_tup (S : Sep l H) (hz : xs.length ≤ sizeLine) (k : ∀ p H', Sep (Tp p xs :: l) H' → Q (.ref p) H') : xs.length ≤ sizeLine ∧ ∀ p, H p = none → Q (.ref p) (upd H p (.tup xs)) :=
  ⟨hz, fun p hp => k p _ (S.newT hp)⟩
theorem a_new {o : HO} (S : Sep l H) (k : ∀ p H', Sep (At p o :: l) H' → Q (.ref p) H') : ∀ p, H p = none → Q (.ref p) (upd H p o) := fun p hp => k p _ (S.new hp)
theorem a_newT (S : Sep l H) (k : ∀ p H', Sep (Tp p xs :: l) H' → Q (.ref p) H') : ∀ p, H p = none → Q (.ref p) (upd H p (.tup xs)) := fun p hp => k p _ (S.newT hp)
theorem r_tup (q : tr σ H fun xs H1 => xs.length ≤ sizeLine ∧ ∀ p, H1 p = none → Q (.ref p) (upd H1 p (.tup xs))) : tTup tr σ H Q := q
theorem r_list (q : tr σ H fun xs H1 => xs.length ≤ sizeLine ∧ ∀ p, H1 p = none → Q (.ref p) (upd H1 p (.lst xs))) : tLst tr σ H Q := q
/-! statements -/
section
variable {nx bk ct : St → Hp → Prop} {rt : VK} {tu : TS}
theorem r_seq (q : ts ⟨tz ⟨nx, rt, bk, ct⟩, rt, bk, ct⟩ σ H) : tSeq ts tz ⟨nx, rt, bk, ct⟩ σ H := q
theorem r_next (q : nx σ H) : tNext ⟨nx, rt, bk, ct⟩ σ H := q
theorem r_brk (q : bk σ H) : tBreak ⟨nx, rt, bk, ct⟩ σ H := q
theorem r_cnt (q : ct σ H) : tCont ⟨nx, rt, bk, ct⟩ σ H := q
theorem r_ret (q : te σ H rt) : tRet te ⟨nx, rt, bk, ct⟩ σ H := q
theorem r_retN (q : rt .non H) : tRetN ⟨nx, rt, bk, ct⟩ σ H := q
theorem r_drop (q : te σ H fun _ H1 => nx σ H1) : tDrop te ⟨nx, rt, bk, ct⟩ σ H := q
theorem r_ifS (q : t σ H fun b H1 => if b = true then ts D σ H1 else tu D σ H1) : tIfS t ts tu D σ H := q
theorem r_asg {g : TG} (q : te σ H fun x H1 => g x σ H1 nx) : tAsg te g ⟨nx, rt, bk, ct⟩ σ H := q
theorem r_aug {ti : TIp} (h : σ[i]? = some (some x)) (q : te σ H fun y H1 => ti x y H1 fun z H2 => nx (σ.set i (some z)) H2) : tAug i te ti ⟨nx, rt, bk, ct⟩ σ H := ⟨x, h, q⟩
end
theorem g_name {R : St → Hp → Prop} (q : R (σ.set i (some v)) H) : gName i v σ H R := q
theorem g_tup {k : Nat} {tg : TGs} {R : St → Hp → Prop} {e : Nat} (S : Sep l H) (hi : l[e]? = some (Tp p xs)) (hk : xs.length = k) (q : tg xs σ H R) : gTup K k tg (.ref p) σ H R := ⟨p, xs, rfl, SqT.of (S.tp hi), hk, q⟩
theorem g_cons {g : TG} {gs : TGs} {R : St → Hp → Prop} (q : g v σ H fun σ' H' => gs xs σ' H' R) : gCons g gs (v :: xs) σ H R := ⟨v, xs, rfl, q⟩
theorem g_nil {R : St → Hp → Prop} (q : R σ H) : gNil [] σ H R := ⟨rfl, q⟩
/-! operations on values -/
theorem o_add (q : Q (.int (m + n)) H) : gAdd (.int m) (.int n) H Q := .inl ⟨m, n, rfl, rfl, q⟩
theorem o_addS {s w : Str} (hz : s.length + w.length ≤ sizeLine) (q : Q (.str (s ++ w)) H) : gAdd (.str s) (.str w) H Q := .inr (.inl ⟨s, w, rfl, rfl, hz, q⟩)
theorem o_cat {p' : Addr} {e e' : Nat} (S : Sep l H) (hi : l[e]? = some (At p (.lst xs))) (hj : l[e']? = some (At p' (.lst ys))) (hz : xs.length + ys.length ≤ sizeLine) (k : ∀ d H', Sep (At d (.lst (xs ++ ys)) :: l) H' → Q (.ref d) H') : gAdd (.ref p) (.ref p') H Q :=
  .inr (.inr ⟨p, p', xs, ys, rfl, rfl, S.at hi, S.at hj, hz, fun d hd => k d _ (S.new hd)⟩)
theorem o_sub (q : Q (.int (m - n)) H) : gMinus (.int m) (.int n) H Q := ⟨m, n, rfl, rfl, q⟩
theorem o_mulL (h : -(2 ^ 64) < m ∧ m < 2 ^ 64) (q : Q (.int (m * n)) H) : gMul (.int m) (.int n) H Q := .inl ⟨m, n, rfl, rfl, .inl h, q⟩
theorem o_mulR (h : -(2 ^ 64) < n ∧ n < 2 ^ 64) (q : Q (.int (m * n)) H) : gMul (.int m) (.int n) H Q := .inl ⟨m, n, rfl, rfl, .inr h, q⟩
theorem o_mulW (h : CMulW m n) (q : Q (.int (m * n)) H) : gMul (.int m) (.int n) H Q := .inr ⟨m, n, rfl, rfl, h, q⟩
theorem o_div (h0 : 0 < n) (h1 : n < 10 ^ 40) (q : Q (.int (m / n)) H) : gDiv (.int m) (.int n) H Q := ⟨m, n, rfl, rfl, wide_div (b := 200) h0 (by
  have e : (10 : Int) ^ 40 < 2 ^ 200 := by decide
  have e2 : (n.natAbs : Int) = n := by omega
  have e3 : ((2 ^ 200 : Nat) : Int) = 2 ^ 200 := by decide
  omega) (by decide) (by decide), q⟩
theorem o_mod (h : 0 < n) (k : ∀ r : Int, r = m % n → 0 ≤ r → r < n → Q (.int r) H) : gMod (.int m) (.int n) H Q := ⟨m, n, rfl, rfl, by omega, by
  have e : m.fmod n = m % n := Int.fmod_eq_emod_of_nonneg m (by omega)
  show Q (.int (m.fmod n)) H
  rw [e]; exact k _ rfl (Int.emod_nonneg m (by omega)) (Int.emod_lt_of_pos m h)⟩
theorem o_pow {k : Nat} (h : 0 ≤ n ∧ n ≤ 1000000 ∧ m.natAbs < 2 ^ 64) (e : n.toNat = k) (q : Q (.int (m ^ k)) H) : gPow (.int m) (.int n) H Q := ⟨m, n, rfl, rfl, h, by rw [← e] at q; exact q⟩
theorem o_neg (q : Q (.int (-n)) H) : gNeg (.int n) H Q := ⟨n, rfl, q⟩
theorem o_lt (q : Q (.bl (decide (m < n))) H) : gLt (.int m) (.int n) H Q := ⟨m, n, rfl, rfl, q⟩
theorem o_le (q : Q (.bl (decide (m ≤ n))) H) : gLe (.int m) (.int n) H Q := ⟨m, n, rfl, rfl, q⟩
theorem o_gt (q : Q (.bl (decide (n < m))) H) : gGt (.int m) (.int n) H Q := ⟨m, n, rfl, rfl, q⟩
theorem o_ge (q : Q (.bl (decide (n ≤ m))) H) : gGe (.int m) (.int n) H Q := ⟨m, n, rfl, rfl, q⟩
theorem d_int {m n : Int} : decide (V.int m = V.int n) = decide (m = n) := by
  by_cases h : m = n
  · rw [h, decide_eq_true rfl, decide_eq_true rfl]
  · rw [decide_eq_false h, decide_eq_false (fun z => h (V.int.inj z))]
theorem d_str {m n : Str} : decide (V.str m = V.str n) = decide (m = n) := by
  by_cases h : m = n
  · rw [h, decide_eq_true rfl, decide_eq_true rfl]
  · rw [decide_eq_false h, decide_eq_false (fun z => h (V.str.inj z))]
theorem d_bl {m n : Bool} : decide (V.bl m = V.bl n) = decide (m = n) := by
  by_cases h : m = n
  · rw [h, decide_eq_true rfl, decide_eq_true rfl]
  · rw [decide_eq_false h, decide_eq_false (fun z => h (V.bl.inj z))]
theorem o_eqI (q : Q (.bl (decide (m = n))) H) : gEq K (.int m) (.int n) H Q := .inl ⟨rfl, by rw [d_int]; exact q⟩
theorem o_eqS {m n : Str} (q : Q (.bl (decide (m = n))) H) : gEq K (.str m) (.str n) H Q := .inl ⟨rfl, by rw [d_str]; exact q⟩
theorem o_eqB {m n : Bool} (q : Q (.bl (decide (m = n))) H) : gEq K (.bl m) (.bl n) H Q := .inl ⟨rfl, by rw [d_bl]; exact q⟩
theorem o_neI (q : Q (.bl (!decide (m = n))) H) : gNe K (.int m) (.int n) H Q := .inl ⟨rfl, by rw [d_int]; exact q⟩
theorem o_neS {m n : Str} (q : Q (.bl (!decide (m = n))) H) : gNe K (.str m) (.str n) H Q := .inl ⟨rfl, by rw [d_str]; exact q⟩
theorem o_neB {m n : Bool} (q : Q (.bl (!decide (m = n))) H) : gNe K (.bl m) (.bl n) H Q := .inl ⟨rfl, by rw [d_bl]; exact q⟩
theorem o_is (q : Q (.bl (decide (x = .non))) H) : gIs x .non H Q := ⟨rfl, q⟩
theorem o_isN (q : Q (.bl (!decide (x = .non))) H) : gIsN x .non H Q := ⟨rfl, q⟩
/-! places -/
theorem x_lst {e : Nat} (S : Sep l H) (hi : l[e]? = some (At p (.lst xs))) (a : atI xs n = some v) (q : Q v H) : rIx K (.ref p) (.int n) H Q := .inl ⟨p, xs, n, v, rfl, rfl, SqL.of (S.at hi), a, q⟩
theorem atI_in {α : Type} {as : List α} (h0 : 0 ≤ n) (h1 : n < as.length) : ∃ y, as[n.toNat]? = some y ∧ atI as n = some y := by
  have hl : n.toNat < as.length := by omega
  refine ⟨as[n.toNat], List.getElem?_eq_getElem hl, ?_⟩
  unfold atI ixN
  rw [if_pos h0, if_pos h1]
  exact List.getElem?_eq_getElem hl
theorem x_lstM {e : Nat} {α : Type} {f : α → V} {as : List α} (S : Sep l H) (hi : l[e]? = some (At p (.lst (as.map f)))) (h0 : 0 ≤ n) (h1 : n < as.length) (k : ∀ y, as[n.toNat]? = some y → Q (f y) H) : rIx K (.ref p) (.int n) H Q := by
  obtain ⟨y, e1, e2⟩ := atI_in h0 h1
  refine x_lst (v := f y) S hi ?_ (k y e1)
  obtain ⟨z, e3, e4⟩ := atI_in (as := as.map f) h0 (by rw [List.length_map]; exact h1)
  rw [List.getElem?_map, e1] at e3
  rw [e4, ← e3]
  rfl
theorem x_lstA {e : Nat} (S : Sep l H) (hi : l[e]? = some (At p (.lst xs))) (h0 : 0 ≤ n) (h1 : n < xs.length) (k : ∀ v, xs[n.toNat]? = some v → Q v H) : rIx K (.ref p) (.int n) H Q := by
  obtain ⟨y, e1, e2⟩ := atI_in h0 h1
  exact x_lst S hi e2 (k y e1)
theorem x_tup {e : Nat} (S : Sep l H) (hi : l[e]? = some (Tp p xs)) (a : atI xs n = some v) (q : Q v H) : rIx K (.ref p) (.int n) H Q := .inr (.inl ⟨p, xs, n, v, rfl, rfl, SqT.of (S.tp hi), a, q⟩)
theorem x_str {z : Str} {c : Nat} (hz : z.length ≤ sizeLine) (a : atI z.cps.toList n = some c) (q : Q (.str ⟨#[c]⟩) H) : rIx K (.str z) (.int n) H Q := .inr (.inr ⟨z, n, c, rfl, rfl, hz, a, q⟩)
theorem g_sub {to ti : TE} {tset : TSet} {R : St → Hp → Prop} (q : to σ H fun o H1 => ti σ H1 fun i H2 => tset o i v H2 fun H3 => R σ H3) : gSub to ti tset v σ H R := q
theorem w_lst {e : Nat} {R : Hp → Prop} {jn : Nat} (S : Sep l H) (hi : l[e]? = some (At p (.lst xs))) (a : ixN xs.length n = some jn) (k : ∀ H', Sep (l.set e (At p (.lst (xs.set jn v)))) H' → R H') : rSetL (.ref p) (.int n) v H R :=
  ⟨p, xs, n, jn, rfl, rfl, S.at hi, a, k _ (S.upd hi fun _ z => nomatch z)⟩
/-! has -/
theorem has0 {A : Asn} : (A :: l)[0]? = some A := rfl
theorem hasS {A B : Asn} (h : l[i]? = some A) : (B :: l)[i + 1]? = some A := h
theorem set_same {α : Type} {x : α} : ∀ {l : List α} {i : Nat}, l[i]? = some x → l.set i x = l
  | [], _, e => by cases e
  | a :: l, 0, e => by cases e; rfl
  | a :: l, i + 1, e => by
    show a :: l.set i x = a :: l
    rw [set_same (l := l) (i := i) e]
theorem Sep.backS {A : Asn} (e : l[i]? = some A) (S : Sep (A :: l.eraseIdx i) H) : Sep l H := by
  have q := Sep.back e S
  rw [set_same e] at q
  exact q
theorem Sep.fr1 {A B : Asn} (S : Sep (A :: B :: l) H) : Sep (B :: A :: l) H := S.pick (i := 1) rfl
theorem Sep.dr1 {A B : Asn} (S : Sep (A :: B :: l) H) : Sep (A :: l) H := S.fr1.tail
theorem Sep.bk1 {A B : Asn} (S : Sep (A :: B :: l) H) : Sep (B :: A :: l) H := S.reord [1]
theorem Sep.fr2 {A B C : Asn} (S : Sep (A :: B :: C :: l) H) : Sep (C :: A :: B :: l) H := S.pick (i := 2) rfl
theorem Sep.dr2 {A B C : Asn} (S : Sep (A :: B :: C :: l) H) : Sep (A :: B :: l) H := S.fr2.tail
theorem Sep.bk2 {A B C : Asn} (S : Sep (A :: B :: C :: l) H) : Sep (B :: C :: A :: l) H := S.reord [1, 1]
theorem Sep.fr3 {A B C D : Asn} (S : Sep (A :: B :: C :: D :: l) H) : Sep (D :: A :: B :: C :: l) H := S.pick (i := 3) rfl
theorem Sep.dr3 {A B C D : Asn} (S : Sep (A :: B :: C :: D :: l) H) : Sep (A :: B :: C :: l) H := S.fr3.tail
theorem Sep.bk3 {A B C D : Asn} (S : Sep (A :: B :: C :: D :: l) H) : Sep (B :: C :: D :: A :: l) H := S.reord [1, 1, 1]
theorem Sep.fr4 {A B C D E : Asn} (S : Sep (A :: B :: C :: D :: E :: l) H) : Sep (E :: A :: B :: C :: D :: l) H := S.pick (i := 4) rfl
theorem Sep.dr4 {A B C D E : Asn} (S : Sep (A :: B :: C :: D :: E :: l) H) : Sep (A :: B :: C :: D :: l) H := S.fr4.tail
theorem Sep.bk4 {A B C D E : Asn} (S : Sep (A :: B :: C :: D :: E :: l) H) : Sep (B :: C :: D :: E :: A :: l) H := S.reord [1, 1, 1, 1]
theorem Sep.fr5 {A B C D E F : Asn} (S : Sep (A :: B :: C :: D :: E :: F :: l) H) : Sep (F :: A :: B :: C :: D :: E :: l) H := S.pick (i := 5) rfl
theorem Sep.dr5 {A B C D E F : Asn} (S : Sep (A :: B :: C :: D :: E :: F :: l) H) : Sep (A :: B :: C :: D :: E :: l) H := S.fr5.tail
theorem Sep.bk5 {A B C D E F : Asn} (S : Sep (A :: B :: C :: D :: E :: F :: l) H) : Sep (B :: C :: D :: E :: F :: A :: l) H := S.reord [1, 1, 1, 1, 1]
theorem Sep.fr6 {A B C D E F G : Asn} (S : Sep (A :: B :: C :: D :: E :: F :: G :: l) H) : Sep (G :: A :: B :: C :: D :: E :: F :: l) H := S.pick (i := 6) rfl
theorem Sep.dr6 {A B C D E F G : Asn} (S : Sep (A :: B :: C :: D :: E :: F :: G :: l) H) : Sep (A :: B :: C :: D :: E :: F :: l) H := S.fr6.tail
theorem Sep.bk6 {A B C D E F G : Asn} (S : Sep (A :: B :: C :: D :: E :: F :: G :: l) H) : Sep (B :: C :: D :: E :: F :: G :: A :: l) H := S.reord [1, 1, 1, 1, 1, 1]
theorem Sep.fr7 {A B C D E F G J : Asn} (S : Sep (A :: B :: C :: D :: E :: F :: G :: J :: l) H) : Sep (J :: A :: B :: C :: D :: E :: F :: G :: l) H := S.pick (i := 7) rfl
theorem Sep.dr7 {A B C D E F G J : Asn} (S : Sep (A :: B :: C :: D :: E :: F :: G :: J :: l) H) : Sep (A :: B :: C :: D :: E :: F :: G :: l) H := S.fr7.tail
theorem Sep.bk7 {A B C D E F G J : Asn} (S : Sep (A :: B :: C :: D :: E :: F :: G :: J :: l) H) : Sep (B :: C :: D :: E :: F :: G :: J :: A :: l) H := S.reord [1, 1, 1, 1, 1, 1, 1]
theorem Sep.fr8 {A B C D E F G J L : Asn} (S : Sep (A :: B :: C :: D :: E :: F :: G :: J :: L :: l) H) : Sep (L :: A :: B :: C :: D :: E :: F :: G :: J :: l) H := S.pick (i := 8) rfl
theorem Sep.dr8 {A B C D E F G J L : Asn} (S : Sep (A :: B :: C :: D :: E :: F :: G :: J :: L :: l) H) : Sep (A :: B :: C :: D :: E :: F :: G :: J :: l) H := S.fr8.tail
theorem Sep.bk8 {A B C D E F G J L : Asn} (S : Sep (A :: B :: C :: D :: E :: F :: G :: J :: L :: l) H) : Sep (B :: C :: D :: E :: F :: G :: J :: L :: A :: l) H := S.reord [1, 1, 1, 1, 1, 1, 1, 1]
/-! builtins -/
def gInt : List V → Hp → VK → Prop := fun xs H Q => (∃ i, xs = [.int i] ∧ Q (.int i) H) ∨ ∃ k, xs = [.bl k] ∧ Q (.int (if k = true then 1 else 0)) H
theorem call_gInt {X : Cx} : CallR X (.type "int") gInt := call_int1
theorem c_int (q : Q (.int n) H) : gInt [.int n] H Q := .inl ⟨n, rfl, q⟩
def gAbs : List V → Hp → VK → Prop := fun xs H Q => ∃ i, xs = [V.int i] ∧ Q (V.int (if i < 0 then -i else i)) H
theorem call_gAbs {X : Cx} : CallR X (.builtin "abs") gAbs := call_abs
theorem c_abs (q : Q (.int (n.natAbs : Int)) H) : gAbs [.int n] H Q := ⟨n, rfl, by
  have e : (if n < 0 then -n else n) = (n.natAbs : Int) := by split <;> omega
  rw [e]; exact q⟩
theorem c_lenL {e : Nat} (S : Sep l H) (hi : l[e]? = some (At p (.lst xs))) (q : Q (.int (xs.length : Nat)) H) : gLen K [.ref p] H Q := .inl ⟨_, _, rfl, .inl ⟨xs, SqL.of (S.at hi), rfl⟩, q⟩
theorem c_lenM {e : Nat} {α : Type} {f : α → V} {as : List α} (S : Sep l H) (hi : l[e]? = some (At p (.lst (as.map f)))) (q : Q (.int (as.length : Nat)) H) : gLen K [.ref p] H Q := c_lenL S hi (by rw [List.length_map]; exact q)
theorem c_lenS {z : Str} (hz : z.length ≤ sizeLine) (q : Q (.int (z.length : Nat)) H) : gLen K [.str z] H Q := .inl ⟨_, _, rfl, ⟨hz, rfl⟩, q⟩
theorem c_lenT {e : Nat} (S : Sep l H) (hi : l[e]? = some (Tp p xs)) (q : Q (.int (xs.length : Nat)) H) : gLen K [.ref p] H Q := .inl ⟨_, _, rfl, .inr ⟨xs, SqT.of (S.tp hi), rfl⟩, q⟩
theorem c_lenD {e : Nat} {kvs : List (Key × V)} (S : Sep l H) (hi : l[e]? = some (At p (.dK kvs))) (q : Q (.int (kvs.length : Nat)) H) : gLen K [.ref p] H Q := .inr ⟨p, kvs, rfl, S.at hi, q⟩
def gList (K : PySem.W.Frag) : List V → Hp → VK → Prop := fun xs H Q => ∃ p ys, xs = [.ref p] ∧ (SqL K H p ys ∨ SqT K H p ys) ∧ ∀ l, H l = none → Q (.ref l) (upd H l (.lst ys))
theorem call_gList {X : Cx} {K : PySem.W.Frag} (hK : X.K = K) : CallR X (.type "list") (gList K) := by rw [← hK]; exact call_list_of
theorem c_listL {e : Nat} (S : Sep l H) (hi : l[e]? = some (At p (.lst xs))) (k : ∀ d H', Sep (At d (.lst xs) :: l) H' → Q (.ref d) H') : gList K [.ref p] H Q := ⟨p, xs, rfl, .inl (SqL.of (S.at hi)), fun d hd => k d _ (S.new hd)⟩
theorem c_listT {e : Nat} (S : Sep l H) (hi : l[e]? = some (Tp p xs)) (k : ∀ d H', Sep (At d (.lst xs) :: l) H' → Q (.ref d) H') : gList K [.ref p] H Q := ⟨p, xs, rfl, .inr (SqT.of (S.tp hi)), fun d hd => k d _ (S.new hd)⟩
theorem r_BM {T : String} {rm : V → List V → Hp → VK → Prop} (q : ta σ H fun x H1 => tyV K T x H1 ∧ tr σ H1 fun xs H2 => rm x xs H2 Q) : tBM K T rm ta tr σ H Q := q
theorem m_tyL {e : Nat} {R : Prop} (S : Sep l H) (hi : l[e]? = some (At p (.lst xs))) (q : R) : tyV K "list" (.ref p) H ∧ R := ⟨.inl ⟨rfl, _, SqL.of (S.at hi)⟩, q⟩
theorem m_append {e : Nat} (S : Sep l H) (hi : l[e]? = some (At p (.lst xs))) (hz : xs.length < 100000) (k : ∀ H', Sep (l.set e (At p (.lst (xs ++ [v])))) H' → Q .non H') : rAppend (.ref p) [v] H Q :=
  ⟨p, xs, v, rfl, rfl, S.at hi, Nat.lt_of_lt_of_le hz (by decide), k _ (S.upd hi fun _ z => nomatch z)⟩
theorem r_sl {rs : V → Option Int → Option Int → Hp → VK → Prop} {tl th : TO} (q : te σ H fun x H1 => tl σ H1 fun lo H2 => th σ H2 fun hi H3 => rs x lo hi H3 Q) : tSl rs te tl th σ H Q := q
theorem r_part {QO : Option Int → Hp → Prop} (q : te σ H fun x H1 => ∃ i, x = .int i ∧ QO (some i) H1) : tPart te σ H QO := q
theorem r_nopart {QO : Option Int → Hp → Prop} (q : QO none H) : tNoPart σ H QO := q
theorem r_isint {P : Int → Prop} (q : P n) : ∃ i, V.int n = .int i ∧ P i := ⟨n, rfl, q⟩
theorem s_lst {e : Nat} {lo hi : Option Int} (S : Sep l H) (he : l[e]? = some (At p (.lst xs))) (k : ∀ d H', Sep (At d (.lst (cutV xs lo hi)) :: l) H' → Q (.ref d) H') : gSl K (.ref p) lo hi H Q := .inl ⟨p, xs, rfl, SqL.of (S.at he), fun d hd => k d _ (S.new hd)⟩
theorem s_str {z : Str} {lo hi : Option Int} (hz : z.length ≤ sizeLine) (q : Q (.str (cutS z lo hi)) H) : gSl K (.str z) lo hi H Q := .inr ⟨z, rfl, hz, q⟩
end

theorem call_gLen0 {X : Cx} : CallR X (.builtin "len") (gLen X.K) := CallR.or call_len fun pins s σ H xs us Q I r h => by
  obtain ⟨a, kvs, rfl, ha, q⟩ := h
  exact call_lenD pins s σ H _ us Q I r ⟨a, kvs, rfl, ha, q⟩
theorem call_gLen {X : Cx} {K : PySem.W.Frag} (hK : X.K = K) : CallR X (.builtin "len") (gLen K) := by rw [← hK]; exact call_gLen0
/-- the draws' source: the cells, the next cell, what is left of a great one, the number of draws -/
def Src (s : Addr) : Asn := Exs fun (x : Addr × List Int × Int × Int × Int) => Pk [pure' (x.2.1.length ≤ 63 ∧ 0 ≤ x.2.2.1 ∧ 0 ≤ x.2.2.2.1 ∧ 0 ≤ x.2.2.2.2), At s (.lst [.ref x.1, .int x.2.2.1, .int x.2.2.2.1, .int x.2.2.2.2]), At x.1 (.lst (x.2.1.map V.int))]
theorem src_open {s : Addr} {l : List Asn} {H : Hp} (S : Sep (Src s :: l) H) : ∃ (L : Addr) (ns : List Int) (a b c : Int), ns.length ≤ 63 ∧ 0 ≤ a ∧ 0 ≤ b ∧ 0 ≤ c ∧ Sep (At s (.lst [.ref L, .int a, .int b, .int c]) :: At L (.lst (ns.map V.int)) :: l) H := by
  obtain ⟨⟨L, ns, a, b, c⟩, S⟩ := S.ex
  obtain ⟨⟨h1, h2, h3, h4⟩, S⟩ := (S.open').pure
  exact ⟨L, ns, a, b, c, h1, h2, h3, h4, S⟩
theorem src_close {s L : Addr} {ns : List Int} {a b c : Int} {l : List Asn} {H : Hp} (h1 : ns.length ≤ 63) (h2 : 0 ≤ a) (h3 : 0 ≤ b) (h4 : 0 ≤ c) (S : Sep (At s (.lst [.ref L, .int a, .int b, .int c]) :: At L (.lst (ns.map V.int)) :: l) H) : Sep (Src s :: l) H :=
  Sep.ex' (x := (L, ns, a, b, c)) (Sep.close' (l := [_, _, _]) (Sep.pure_in ⟨h1, h2, h3, h4⟩ S))
local macro_rules | `(tactic| walk_at "has") => `(tactic| (first | with_reducible exact has0 | with_reducible exact (hasS has0) | with_reducible exact (hasS (hasS has0)) | with_reducible exact (hasS (hasS (hasS has0))) | with_reducible exact (hasS (hasS (hasS (hasS has0)))) | with_reducible exact (hasS (hasS (hasS (hasS (hasS has0))))) | with_reducible exact (hasS (hasS (hasS (hasS (hasS (hasS has0)))))) | with_reducible exact (hasS (hasS (hasS (hasS (hasS (hasS (hasS has0))))))) | with_reducible exact (hasS (hasS (hasS (hasS (hasS (hasS (hasS (hasS has0)))))))) | with_reducible exact (hasS (hasS (hasS (hasS (hasS (hasS (hasS (hasS (hasS has0))))))))) | with_reducible exact (hasS (hasS (hasS (hasS (hasS (hasS (hasS (hasS (hasS (hasS has0)))))))))) | with_reducible exact (hasS (hasS (hasS (hasS (hasS (hasS (hasS (hasS (hasS (hasS (hasS has0))))))))))) | with_reducible exact (hasS (hasS (hasS (hasS (hasS (hasS (hasS (hasS (hasS (hasS (hasS (hasS has0)))))))))))) | with_reducible exact (hasS (hasS (hasS (hasS (hasS (hasS (hasS (hasS (hasS (hasS (hasS (hasS (hasS has0))))))))))))) | exact has0 | exact (hasS has0) | exact (hasS (hasS has0)) | exact (hasS (hasS (hasS has0))) | exact (hasS (hasS (hasS (hasS has0)))) | exact (hasS (hasS (hasS (hasS (hasS has0))))) | exact (hasS (hasS (hasS (hasS (hasS (hasS has0)))))) | exact (hasS (hasS (hasS (hasS (hasS (hasS (hasS has0))))))) | exact (hasS (hasS (hasS (hasS (hasS (hasS (hasS (hasS has0)))))))) | exact (hasS (hasS (hasS (hasS (hasS (hasS (hasS (hasS (hasS has0))))))))) | exact (hasS (hasS (hasS (hasS (hasS (hasS (hasS (hasS (hasS (hasS has0)))))))))) | exact (hasS (hasS (hasS (hasS (hasS (hasS (hasS (hasS (hasS (hasS (hasS has0))))))))))) | exact (hasS (hasS (hasS (hasS (hasS (hasS (hasS (hasS (hasS (hasS (hasS (hasS has0)))))))))))) | exact (hasS (hasS (hasS (hasS (hasS (hasS (hasS (hasS (hasS (hasS (hasS (hasS (hasS has0)))))))))))))))
local macro_rules | `(tactic| walk_at "alloc") => `(tactic| (first
  | (refine ⟨?hz, fun p hp => ?_⟩; (case hz => (first | decide | (simp only [List.length_cons, List.length_nil]; decide))); (generalize hg : upd _ p _ = H1); first | (have S := newT_eq (by assumption) hp hg; clear hg hp) | (have S := new_eq (by assumption) hp hg; clear hg hp))
  | (refine fun p hp => ?_; (generalize hg : upd _ p _ = H1); first | (have S := newT_eq (by assumption) hp hg; clear hg hp) | (have S := new_eq (by assumption) hp hg; clear hg hp))))
local macro_rules | `(tactic| walk_at "v1") => `(tactic| (first
  | with_reducible refine r_var rfl ?_
  | with_reducible refine r_c ?_
  | with_reducible refine r_op ?_
  | with_reducible refine r_un ?_
  | with_reducible refine r_test ?_
  | with_reducible refine r_B ?_
  | with_reducible refine r_isbl ?_
  | with_reducible refine r_and ?_
  | with_reducible refine r_or ?_
  | with_reducible refine r_not ?_
  | with_reducible refine r_andV ?_
  | with_reducible refine r_orV ?_
  | with_reducible refine r_notV ?_
  | with_reducible refine r_ifE ?_
  | with_reducible refine r_nil ?_
  | with_reducible refine r_cons ?_
  | with_reducible refine r_chain ?_
  | with_reducible refine r_call ?_
  | with_reducible refine r_CB ?_
  | with_reducible refine r_tup ?_
  | with_reducible refine r_list ?_
  | with_reducible refine r_seq ?_
  | with_reducible refine r_next ?_
  | with_reducible refine r_ret ?_
  | with_reducible refine r_retN ?_
  | with_reducible refine r_drop ?_
  | with_reducible refine r_ifS ?_
  | with_reducible refine r_asg ?_
  | with_reducible refine g_name ?_
  | with_reducible refine g_cons ?_
  | with_reducible refine g_nil ?_
  | with_reducible refine g_sub ?_
  | with_reducible refine r_sl ?_
  | with_reducible refine r_part ?_
  | with_reducible refine r_nopart ?_
  | with_reducible refine r_isint ?_
  | with_reducible refine o_add ?_
  | with_reducible refine o_sub ?_
  | with_reducible refine o_neg ?_
  | with_reducible refine o_lt ?_
  | with_reducible refine o_le ?_
  | with_reducible refine o_gt ?_
  | with_reducible refine o_ge ?_
  | with_reducible refine o_eqI ?_
  | with_reducible refine o_eqS ?_
  | with_reducible refine o_eqB ?_
  | with_reducible refine o_neI ?_
  | with_reducible refine o_neS ?_
  | with_reducible refine o_neB ?_
  | with_reducible refine o_is ?_
  | with_reducible refine o_isN ?_
  | with_reducible refine c_int ?_
  | with_reducible refine c_abs ?_
  | ((with_reducible refine o_mulR ?hm ?_); (case hm => (constructor <;> decide)))
  | ((with_reducible refine o_mulL ?hm ?_); (case hm => (constructor <;> decide)))
  | ((with_reducible refine o_mulR ?hm ?_); (case hm => (constructor <;> omega)))
  | ((with_reducible refine o_mulL ?hm ?_); (case hm => (constructor <;> omega)))
  | ((with_reducible refine o_div ?h0 ?h1 ?_); (case h0 => (first | decide | omega | assumption)); (case h1 => (first | decide | omega)))
  | ((with_reducible refine o_mod ?h0 ?_); (case h0 => (first | decide | omega | assumption)); intro _ _ _ _)
  | ((with_reducible refine' o_pow ?h0 ?he ?_); (case h0 => decide); (case he => (simp only [Int.reduceToNat]; rfl)))
  | ((with_reducible refine' x_lstM (by assumption) ?hi ?h0 ?h1 ?_); (case hi => walk_at "has"); (case h0 => (first | omega | assumption)); (case h1 => (first | omega | assumption)); intro _ _)
  | ((with_reducible refine' x_lst (by assumption) ?hi ?ha ?_); (case hi => walk_at "has"); (case ha => rfl))
  | ((with_reducible refine' x_tup (by assumption) ?hi ?ha ?_); (case hi => walk_at "has"); (case ha => rfl))
  | ((with_reducible refine' c_lenM (by assumption) ?hi ?_); (case hi => walk_at "has"))
  | ((with_reducible refine' c_lenL (by assumption) ?hi ?_); (case hi => walk_at "has"))
  | ((with_reducible refine' c_lenT (by assumption) ?hi ?_); (case hi => walk_at "has"))
  | ((with_reducible refine' c_lenD (by assumption) ?hi ?_); (case hi => walk_at "has"))
  | ((with_reducible refine' w_lst (by assumption) ?hi ?ha ?_); (case hi => walk_at "has"); (case ha => rfl); intro _ S; simp only [List.set, Int.reduceToNat] at S)
  | walk_at "alloc"
  | with_reducible refine r_BM ?_
  | ((with_reducible refine' m_append (by assumption) ?hi ?hz ?_); (case hi => walk_at "has"); (case hz => (first | decide | omega | assumption)); intro _ S; simp only [List.set] at S)
  | ((with_reducible refine' m_tyL (by assumption) ?hi ?_); (case hi => walk_at "has"))
  | (with_reducible refine r_ifT rfl ?_)
  | (with_reducible refine r_ifF rfl ?_)
  | ((with_reducible refine r_ifDT ?hc ?_); (case hc => (first | omega | assumption)))
  | ((with_reducible refine r_ifDF ?hc ?_); (case hc => (first | omega | assumption)))
  | ((with_reducible refine r_ifNT ?hc ?_); (case hc => (first | omega | assumption)))
  | ((with_reducible refine r_ifNF ?hc ?_); (case hc => (first | omega | assumption)))
  ))
local macro_rules | `(tactic| walk_at "v") => `(tactic| (repeat (walk_at "v1")))

/-! loops, comprehensions, dicts -/
def ForB (J : It) (g : TG) (tb : TS) (D : Ends) : St → Hp → Prop := fun σ H1 => ∃ W : Nat → Nat → St → Hp → Prop, (∃ m, W 0 m σ H1) ∧ ∀ i m σ H, W i m σ H →
  (J.stop i H ∧ D.nx σ H) ∨ (J.go i H ∧ ∃ N : St → Hp → Prop, (∀ σ' H', N σ' H' → ∃ m', m' < m ∧ W (i + 1) m' σ' H') ∧ ∀ x H', J.yld i H x H' → g x σ H' fun σ2 H2 => tb { D with nx := N, ct := N, bk := D.nx } σ2 H2)
def LcB (J : It) (g : TG) (tt : TT) (te : TE) (vs : List Nat) : St → Hp → VK → Prop := fun σ H1 Q => ∀ D, H1 D = none → ∃ W : Nat → Nat → Hp → Prop, (∃ m, W 0 m (upd H1 D (.lst []))) ∧ ∀ i m H, W i m H →
  (J.stop i H ∧ Q (.ref D) H) ∨ (J.go i H ∧ ∃ Nx : Hp → Prop, (∀ H', Nx H' → ∃ m', m' < m ∧ W (i + 1) m' H') ∧ ∀ x H', J.yld i H x H' → g x (wipe σ vs) H' fun σ2 H2 => wipe σ2 vs = wipe σ vs ∧ tt σ2 H2 fun b H3 =>
    if b = true then te σ2 H3 fun y H4 => ∃ acc, H4 D = some (.lst acc) ∧ acc.length < sizeLine ∧ Nx (upd H4 D (.lst (acc ++ [y]))) else Nx H3)
section
variable {σ : St} {H : Hp} {K : PySem.W.Frag} {g : TG} {tb : TS} {nx bk ct : St → Hp → Prop} {rt : VK} {te ta : TE} {tA : TA} {tt : TT} {vs : List Nat} {Q : VK} {l : List Asn} {n m : Int} {p : Addr} {xs : List V} {D : Ends}
theorem r_forR1 (q : tA σ H fun vs H1 => ∃ j : Int, vs = [.int j] ∧ -(2 ^ 62) ≤ j ∧ j < 2 ^ 62 ∧ ForB (Itr 0 j.toNat) g tb D σ H1) : tFor (iRng1 tA) g tb D σ H := q
theorem r_forR2 (q : tA σ H fun vs H1 => ∃ i j : Int, vs = [.int i, .int j] ∧ (-(2 ^ 62) ≤ i ∧ i < 2 ^ 62 ∧ -(2 ^ 62) ≤ j ∧ j < 2 ^ 62) ∧ ForB (Itr i (j - i).toNat) g tb D σ H1) : tFor (iRng2 tA) g tb D σ H := q
theorem r_forL (q : te σ H fun x H1 => ∃ a, x = .ref a ∧ (∃ xs, SqL K H1 a xs) ∧ ForB (Itl K a) g tb D σ H1) : tFor (iList K te) g tb D σ H := q
theorem r_forT (q : te σ H fun x H1 => ∃ a, x = .ref a ∧ (∃ xs, SqT K H1 a xs) ∧ ForB (Itt K a) g tb D σ H1) : tFor (iTup K te) g tb D σ H := q
theorem r_forK (q : te σ H fun x H1 => ∃ d o, x = .ref d ∧ ((∃ kvs, H1 d = some (.frz o (.dK kvs)) ∧ ForB (Itk d o kvs) g tb D σ H1) ∨ ∃ kvs, H1 d = some (.frz o (.dT kvs)) ∧ ForB (Itkt d o kvs) g tb D σ H1)) : tFor (iKeys te) g tb D σ H := q
theorem r_forI (q : te σ H fun x H1 => ∃ d o kvs, x = .ref d ∧ H1 d = some (.frz o (.dK kvs)) ∧ ForB (Iti d o kvs) g tb D σ H1) : tFor (iItems te) g tb D σ H := q
theorem r_forE (q : tA σ H fun vs H1 => ∃ a xs, vs = [.ref a] ∧ SqL K H1 a xs ∧ ForB (Ite K a) g tb D σ H1) : tFor (iEnum K tA) g tb D σ H := q
/-- for k in range(n) -/
theorem forR (b0 : -(2 ^ 62) ≤ n) (b1 : n < 2 ^ 62) (Pv : Nat → St → Hp → Prop) (h0 : Pv 0 σ H) (hs : ∀ (i : Nat) σ H, (i : Int) < n → Pv i σ H → g (.int (i : Int)) σ H fun σ2 H2 => tb ⟨Pv (i + 1), rt, nx, Pv (i + 1)⟩ σ2 H2)
    (hd : ∀ σ H, Pv n.toNat σ H → nx σ H) : ∃ j : Int, [V.int n] = [.int j] ∧ -(2 ^ 62) ≤ j ∧ j < 2 ^ 62 ∧ ForB (Itr 0 j.toNat) g tb ⟨nx, rt, bk, ct⟩ σ H :=
  ⟨n, rfl, b0, b1, for_range (D := ⟨nx, rt, bk, ct⟩) Pv h0 (fun i σ H hi p => by
    have q := hs i σ H (by omega) p
    have e : (0 : Int) + (i : Int) = (i : Int) := Int.zero_add _
    rw [e]
    exact q) hd⟩
/-- for x in xs -/
theorem forL {e : Nat} (S : Sep l H) (hi : l[e]? = some (At p (.lst xs))) (Pv : Nat → St → Hp → Prop) (h0 : Pv 0 σ H) (hl : ∀ i σ H, Pv i σ H → H p = some (.lst xs))
    (hs : ∀ i x σ H, xs[i]? = some x → Pv i σ H → g x σ H fun σ2 H2 => tb ⟨Pv (i + 1), rt, nx, Pv (i + 1)⟩ σ2 H2) (hd : ∀ σ H, Pv xs.length σ H → nx σ H) :
    ∃ a, V.ref p = .ref a ∧ (∃ xs, SqL K H a xs) ∧ ForB (Itl K a) g tb ⟨nx, rt, bk, ct⟩ σ H :=
  ⟨p, rfl, ⟨xs, SqL.of (S.at hi)⟩, for_list (K := K) (D := ⟨nx, rt, bk, ct⟩) Pv h0 (fun i σ H _ q => SqL.of (hl i σ H q)) hs hd⟩
/-- for i, x in enumerate(xs) -/
theorem forE {e : Nat} (S : Sep l H) (hi : l[e]? = some (At p (.lst xs))) (Pv : Nat → St → Hp → Prop) (h0 : Pv 0 σ H) (hl : ∀ i σ H, Pv i σ H → H p = some (.lst xs))
    (hs : ∀ i x T σ H H', xs[i]? = some x → Pv i σ H → H T = none → H' = upd H T (.tup [.int (i : Nat), x]) → g (.ref T) σ H' fun σ2 H2 => tb ⟨Pv (i + 1), rt, nx, Pv (i + 1)⟩ σ2 H2) (hd : ∀ σ H, Pv xs.length σ H → nx σ H) :
    ∃ a ys, [V.ref p] = [.ref a] ∧ SqL K H a ys ∧ ForB (Ite K a) g tb ⟨nx, rt, bk, ct⟩ σ H := by
  refine ⟨p, xs, rfl, SqL.of (S.at hi), fun i m σ H => m = xs.length - i ∧ i ≤ xs.length ∧ Pv i σ H, ⟨xs.length, by simp, Nat.zero_le _, h0⟩, ?_⟩
  rintro i m σ H ⟨rfl, hi, q⟩
  have hq : SqL K H p xs := SqL.of (hl i σ H q)
  by_cases hlt : i < xs.length
  · refine .inr ⟨⟨xs, xs[i], hq, by simp [hlt]⟩, Pv (i + 1), fun σ' H' p' => ⟨xs.length - (i + 1), by omega, rfl, hlt, p'⟩, fun x H' y => ?_⟩
    obtain ⟨T, z, rfl, hn, rfl, f⟩ := y
    exact hs i z T σ H _ (f xs hq) q hn rfl
  · have e : i = xs.length := by omega
    subst e
    exact .inl ⟨⟨xs, hq, Nat.le_refl _⟩, hd σ H q⟩
/-- for k in d, locked -/
theorem forK {e : Nat} {kvs : List (Key × V)} (S : Sep l H) (hi : l[e]? = some (At p (.dK kvs))) (Pv : Obj → Nat → St → Hp → Prop) (h0 : ∀ od H', Sep (l.set e (At p (.frz od (.dK kvs)))) H' → Pv od 0 σ H') (hl : ∀ od i σ H, Pv od i σ H → H p = some (.frz od (.dK kvs)))
    (hs : ∀ od i k v σ H, kvs[i]? = some (k, v) → Pv od i σ H → g (kV k) σ H fun σ2 H2 => tb ⟨Pv od (i + 1), fun v H' => H' p = some (.frz od (.dK kvs)) ∧ rt v (upd H' p (.dK kvs)), fun σ' H' => H' p = some (.frz od (.dK kvs)) ∧ nx σ' (upd H' p (.dK kvs)), Pv od (i + 1)⟩ σ2 H2)
    (hd : ∀ od σ H, Pv od kvs.length σ H → nx σ (upd H p (.dK kvs))) (hv : ∀ H', te σ H' = fun Q => Q (.ref p) H') : tLock (tFor (iKeys te) g tb) ⟨nx, rt, bk, ct⟩ σ H := by
  refine ⟨p, .dK kvs, S.at hi, trivial, fun od => ?_⟩
  have S' := S.upd hi (o' := .frz od (.dK kvs)) (fun _ z => nomatch z)
  refine r_forK ?_
  rw [hv]
  refine ⟨p, od, rfl, .inl ⟨kvs, upd_same, fun i m σ H => m = kvs.length - i ∧ i ≤ kvs.length ∧ Pv od i σ H, ⟨kvs.length, by simp, Nat.zero_le _, h0 od _ S'⟩, ?_⟩⟩
  rintro i m σ H ⟨rfl, hi, q⟩
  have hq := hl od i σ H q
  by_cases hlt : i < kvs.length
  · refine .inr ⟨⟨hq, hlt⟩, Pv od (i + 1), fun σ' H' p' => ⟨kvs.length - (i + 1), by omega, rfl, hlt, p'⟩, fun x H' y => ?_⟩
    obtain ⟨rfl, k, v, ek, rfl⟩ := y
    exact hs od i k v σ _ ek q
  · have e : i = kvs.length := by omega
    subst e
    exact .inl ⟨⟨hq, Nat.le_refl _⟩, hq, hd od σ H q⟩
/-- .. of d.items() -/
theorem forI {e : Nat} {kvs : List (Key × V)} (S : Sep l H) (hi : l[e]? = some (At p (.dK kvs))) (Pv : Obj → Nat → St → Hp → Prop) (h0 : ∀ od H', Sep (l.set e (At p (.frz od (.dK kvs)))) H' → Pv od 0 σ H') (hl : ∀ od i σ H, Pv od i σ H → H p = some (.frz od (.dK kvs)))
    (hs : ∀ od i k v T σ H H', kvs[i]? = some (k, v) → Pv od i σ H → H T = none → H' = upd H T (.tup [kV k, v]) → g (.ref T) σ H' fun σ2 H2 => tb ⟨Pv od (i + 1), fun v H' => H' p = some (.frz od (.dK kvs)) ∧ rt v (upd H' p (.dK kvs)), fun σ' H' => H' p = some (.frz od (.dK kvs)) ∧ nx σ' (upd H' p (.dK kvs)), Pv od (i + 1)⟩ σ2 H2)
    (hd : ∀ od σ H, Pv od kvs.length σ H → nx σ (upd H p (.dK kvs))) (hv : ∀ H', te σ H' = fun Q => Q (.ref p) H') : tLock (tFor (iItems te) g tb) ⟨nx, rt, bk, ct⟩ σ H := by
  refine ⟨p, .dK kvs, S.at hi, trivial, fun od => ?_⟩
  have S' := S.upd hi (o' := .frz od (.dK kvs)) (fun _ z => nomatch z)
  refine r_forI ?_
  rw [hv]
  refine ⟨p, od, kvs, rfl, upd_same, fun i m σ H => m = kvs.length - i ∧ i ≤ kvs.length ∧ Pv od i σ H, ⟨kvs.length, by simp, Nat.zero_le _, h0 od _ S'⟩, ?_⟩
  rintro i m σ H ⟨rfl, hi, q⟩
  have hq := hl od i σ H q
  by_cases hlt : i < kvs.length
  · refine .inr ⟨⟨hq, hlt⟩, Pv od (i + 1), fun σ' H' p' => ⟨kvs.length - (i + 1), by omega, rfl, hlt, p'⟩, fun x H' y => ?_⟩
    obtain ⟨T, k, v, ek, rfl, hn, rfl⟩ := y
    exact hs od i k v T σ H _ ek q hn rfl
  · have e : i = kvs.length := by omega
    subst e
    exact .inl ⟨⟨hq, Nat.le_refl _⟩, hq, hd od σ H q⟩
/-! comprehensions -/
theorem r_lcL (q : te σ H fun x H1 => ∃ a, x = .ref a ∧ (∃ xs, SqL K H1 a xs) ∧ LcB (Itl K a) g tt ta vs σ H1 Q) : tLc (iList K te) g tt ta vs σ H Q := q
theorem r_lcT (q : te σ H fun x H1 => ∃ a, x = .ref a ∧ (∃ xs, SqT K H1 a xs) ∧ LcB (Itt K a) g tt ta vs σ H1 Q) : tLc (iTup K te) g tt ta vs σ H Q := q
theorem r_lcR1 (q : tA σ H fun vs' H1 => ∃ j : Int, vs' = [.int j] ∧ -(2 ^ 62) ≤ j ∧ j < 2 ^ 62 ∧ LcB (Itr 0 j.toNat) g tt ta vs σ H1 Q) : tLc (iRng1 tA) g tt ta vs σ H Q := q
theorem r_lcS (q : te σ H fun v H1 => ∃ x, v = .str x ∧ LcB (Its x) g tt ta vs σ H1 Q) : tLc (iStr te) g tt ta vs σ H Q := q
theorem upd_eqL {e : Nat} {ys : List V} {H1 : Hp} (S : Sep l H) (hi : l[e]? = some (At p (.lst xs))) (hg : upd H p (.lst ys) = H1) : Sep (l.set e (At p (.lst ys))) H1 := by
  rw [← hg]
  exact S.upd hi fun _ z => nomatch z
theorem lc_put1 {e : Nat} {acc : List V} {D : Addr} {R : List V → Prop} (S : Sep l H) (hi : l[e]? = some (At D (.lst acc))) (hz : acc.length < 100000) (k : R acc) : ∃ acc', H D = some (.lst acc') ∧ acc'.length < sizeLine ∧ R acc' := ⟨acc, S.at hi, Nat.lt_of_lt_of_le hz (by decide), k⟩
/-- the turn's end: the item goes to the new list -/
theorem lc_put {e : Nat} {acc : List V} {v : V} {D : Addr} {Nx : Hp → Prop} (S : Sep l H) (hi : l[e]? = some (At D (.lst acc))) (hz : acc.length < 100000) (k : ∀ H', Sep (l.set e (At D (.lst (acc ++ [v])))) H' → Nx H') :
    ∃ acc', H D = some (.lst acc') ∧ acc'.length < sizeLine ∧ Nx (upd H D (.lst (acc' ++ [v]))) := ⟨acc, S.at hi, Nat.lt_of_lt_of_le hz (by decide), k _ (S.upd hi fun _ z => nomatch z)⟩
abbrev LcT (g : TG) (tt : TT) (ta : TE) (vs : List Nat) (σ : St) (x : V) (D : Addr) (N : Hp → Prop) (H : Hp) : Prop := g x (wipe σ vs) H fun σ2 H2 => wipe σ2 vs = wipe σ vs ∧ tt σ2 H2 fun b H3 =>
      if b = true then ta σ2 H3 fun y H4 => ∃ acc, H4 D = some (.lst acc) ∧ acc.length < sizeLine ∧ N (upd H4 D (.lst (acc ++ [y]))) else N H3
theorem lc_turn {x : V} {N : Hp → Prop} {D : Addr} (q : g x (wipe σ vs) H fun σ2 H2 => wipe σ2 vs = wipe σ vs ∧ tt σ2 H2 fun b H3 =>
      if b = true then ta σ2 H3 fun y H4 => ∃ acc, H4 D = some (.lst acc) ∧ acc.length < sizeLine ∧ N (upd H4 D (.lst (acc ++ [y]))) else N H3) : LcT g tt ta vs σ x D N H := q
/-- [e for x in xs if ..], xs at an address of ours; D: the new list's address -/
theorem lcL {e : Nat} (S : Sep l H) (hi : l[e]? = some (At p (.lst xs))) (Pv : Addr → Nat → Hp → Prop) (h0 : ∀ D H', Sep (At D (.lst []) :: l) H' → Pv D 0 H') (hl : ∀ D i H, Pv D i H → H p = some (.lst xs))
    (hs : ∀ D i x H, xs[i]? = some x → Pv D i H → LcT g tt ta vs σ x D (Pv D (i + 1)) H) (hd : ∀ D H, Pv D xs.length H → Q (.ref D) H) : ∃ a, V.ref p = .ref a ∧ (∃ xs, SqL K H a xs) ∧ LcB (Itl K a) g tt ta vs σ H Q :=
  ⟨p, rfl, ⟨xs, SqL.of (S.at hi)⟩, fun D hD => lc_list (K := K) (Pv D) (h0 D _ (S.new hD)) (fun i H _ q => SqL.of (hl D i H q)) (hs D) (hd D)⟩
/-- .. over range(n) -/
theorem lcR (S : Sep l H) (b0 : -(2 ^ 62) ≤ n) (b1 : n < 2 ^ 62) (Pv : Addr → Nat → Hp → Prop) (h0 : ∀ D H', Sep (At D (.lst []) :: l) H' → Pv D 0 H')
    (hs : ∀ D (i : Nat) H, (i : Int) < n → Pv D i H → LcT g tt ta vs σ (.int (i : Int)) D (Pv D (i + 1)) H) (hd : ∀ D H, Pv D n.toNat H → Q (.ref D) H) : ∃ j : Int, [V.int n] = [.int j] ∧ -(2 ^ 62) ≤ j ∧ j < 2 ^ 62 ∧ LcB (Itr 0 j.toNat) g tt ta vs σ H Q :=
  ⟨n, rfl, b0, b1, fun D hD => lc_range (Pv D) (h0 D _ (S.new hD)) (fun i H hi q => by
    have e : (0 : Int) + (i : Int) = (i : Int) := Int.zero_add _
    rw [e]
    exact hs D i H (by omega) q) (hd D)⟩
/-- .. over the signs of a text -/
theorem lcS {x : Str} (S : Sep l H) (Pv : Addr → Nat → Hp → Prop) (h0 : ∀ D H', Sep (At D (.lst []) :: l) H' → Pv D 0 H')
    (hs : ∀ D (i : Nat) c H, x.cps[i]? = some c → Pv D i H → LcT g tt ta vs σ (.str ⟨#[c]⟩) D (Pv D (i + 1)) H) (hd : ∀ D H, Pv D x.cps.size H → Q (.ref D) H) : ∃ z, V.str x = .str z ∧ LcB (Its z) g tt ta vs σ H Q := by
  refine ⟨x, rfl, fun D hD => ⟨fun i m H => m = x.cps.size - i ∧ i ≤ x.cps.size ∧ Pv D i H, ⟨x.cps.size, by simp, Nat.zero_le _, h0 D _ (S.new hD)⟩, ?_⟩⟩
  rintro i m H ⟨rfl, hi, q⟩
  by_cases hlt : i < x.cps.size
  · refine .inr ⟨hlt, Pv D (i + 1), fun H' p' => ⟨x.cps.size - (i + 1), by omega, rfl, hlt, p'⟩, fun y H' z => ?_⟩
    obtain ⟨rfl, c, ec, rfl⟩ := z
    exact hs D i c _ ec q
  · have e : i = x.cps.size := by omega
    subst e
    exact .inl ⟨Nat.le_refl _, hd D H q⟩
/-- .. over the keys of a dict, locked -/
theorem lcK {e : Nat} {kvs : List (Key × V)} (S : Sep l H) (hi : l[e]? = some (At p (.dK kvs))) (Pv : Obj → Addr → Nat → Hp → Prop) (h0 : ∀ od D H', Sep (At D (.lst []) :: l.set e (At p (.frz od (.dK kvs)))) H' → Pv od D 0 H') (hl : ∀ od D i H, Pv od D i H → H p = some (.frz od (.dK kvs)))
    (hs : ∀ od D i k v H, kvs[i]? = some (k, v) → Pv od D i H → LcT g tt ta vs σ (kV k) D (Pv od D (i + 1)) H) (hd : ∀ od D H, Pv od D kvs.length H → Q (.ref D) (upd H p (.dK kvs))) (hv : ∀ H', te σ H' = fun Q => Q (.ref p) H') : tLockE (tLc (iKeys te) g tt ta vs) σ H Q := by
  refine ⟨p, .dK kvs, S.at hi, trivial, fun od => ?_⟩
  have S' := S.upd hi (o' := .frz od (.dK kvs)) (fun _ z => nomatch z)
  show te σ _ _
  rw [hv]
  refine ⟨p, od, rfl, .inl ⟨kvs, upd_same, fun D hD => ⟨fun i m H => m = kvs.length - i ∧ i ≤ kvs.length ∧ Pv od D i H, ⟨kvs.length, by simp, Nat.zero_le _, h0 od D _ (S'.new hD)⟩, ?_⟩⟩⟩
  rintro i m H ⟨rfl, hi, q⟩
  have hq := hl od D i H q
  by_cases hlt : i < kvs.length
  · refine .inr ⟨⟨hq, hlt⟩, Pv od D (i + 1), fun H' p' => ⟨kvs.length - (i + 1), by omega, rfl, hlt, p'⟩, fun x H' y => ?_⟩
    obtain ⟨rfl, k, v, ek, rfl⟩ := y
    exact hs od D i k v _ ek q
  · have e : i = kvs.length := by omega
    subst e
    exact .inl ⟨⟨hq, Nat.le_refl _⟩, hq, hd od D H q⟩
/-- .. over d.items(), locked -/
theorem lcI {e : Nat} {kvs : List (Key × V)} (S : Sep l H) (hi : l[e]? = some (At p (.dK kvs))) (Pv : Obj → Addr → Nat → Hp → Prop) (h0 : ∀ od D H', Sep (At D (.lst []) :: l.set e (At p (.frz od (.dK kvs)))) H' → Pv od D 0 H') (hl : ∀ od D i H, Pv od D i H → H p = some (.frz od (.dK kvs)))
    (hs : ∀ od D i k v T H H', kvs[i]? = some (k, v) → Pv od D i H → H T = none → H' = upd H T (.tup [kV k, v]) → LcT g tt ta vs σ (.ref T) D (Pv od D (i + 1)) H') (hd : ∀ od D H, Pv od D kvs.length H → Q (.ref D) (upd H p (.dK kvs))) (hv : ∀ H', te σ H' = fun Q => Q (.ref p) H') : tLockE (tLc (iItems te) g tt ta vs) σ H Q := by
  refine ⟨p, .dK kvs, S.at hi, trivial, fun od => ?_⟩
  have S' := S.upd hi (o' := .frz od (.dK kvs)) (fun _ z => nomatch z)
  show te σ _ _
  rw [hv]
  refine ⟨p, od, kvs, rfl, upd_same, fun D hD => ⟨fun i m H => m = kvs.length - i ∧ i ≤ kvs.length ∧ Pv od D i H, ⟨kvs.length, by simp, Nat.zero_le _, h0 od D _ (S'.new hD)⟩, ?_⟩⟩
  rintro i m H ⟨rfl, hi, q⟩
  have hq := hl od D i H q
  by_cases hlt : i < kvs.length
  · refine .inr ⟨⟨hq, hlt⟩, Pv od D (i + 1), fun H' p' => ⟨kvs.length - (i + 1), by omega, rfl, hlt, p'⟩, fun x H' y => ?_⟩
    obtain ⟨T, k, v, ek, rfl, hn, rfl⟩ := y
    exact hs od D i k v T H _ ek q hn rfl
  · have e : i = kvs.length := by omega
    subst e
    exact .inl ⟨⟨hq, Nat.le_refl _⟩, hq, hd od D H q⟩
/-! rules that name the written part -/
section
variable {X : Cx} (hK : X.K = K)
include hK
theorem pi_gList {tg e : Expr} (h : PE X e te) : PI X tg e (iList K te) := by rw [← hK]; exact pi_list h
theorem pi_gTup {tg e : Expr} (h : PE X e te) : PI X tg e (iTup K te) := by rw [← hK]; exact pi_tup h
theorem pg_gTup {pos : Pos} {es : List Expr} {k : Nat} {t : TGs} {n : Nat} (hc : X.calm = true) (h : PGs X es t) (hn : (assignEach es X.env).length = n := by rfl) (hpl : (assignEach es X.env).findIdx? (·.1) = none := by rfl) : PG X (.Tuple es k pos) (gTup K n t) := by rw [← hK]; exact pg_tup hc h hn hpl
theorem pe_gFld {e : Expr} {f : Str} {pos : Pos} (h : PE X e te) (hb : attributeBase e f X.env (eval e X.env) = eval e X.env) : PE X (.Attribute e f pos) (tFld K te f) := by rw [← hK]; exact pe_fld h hb
end
/-! a word between a statement and the rest -/
def tCut (t u : TS) : TS := fun D σ H => ∃ Mid : St → Hp → Prop, t { D with nx := Mid } σ H ∧ ∀ σ' H', Mid σ' H' → u D σ' H'
theorem pss_cut {X : Cx} {st : Stmt} {rest : List Stmt} {t u : TS} (h1 : PS X st t) (h2 : PSs X rest u) : PSs X (st :: rest) (tCut t u) := by
  refine ⟨fun pins s σ H D I h => ?_⟩
  obtain ⟨Mid, hm, hu⟩ := h
  refine wpAny_execs_cons (thn (h1.run pins s σ H { D with nx := Mid } I hm) fun f s1 q => ?_)
  cases f with
  | next =>
    obtain ⟨σ', H', I', q⟩ := q
    exact h2.run pins s1 σ' H' D I' (hu σ' H' q)
  | ret v => exact q
  | brk => exact q
  | cont => exact q
theorem r_cut {ts tz : TS} (Mid : St → Hp → Prop) (h : ts ⟨Mid, rt, bk, ct⟩ σ H) (k : ∀ σ' H', Mid σ' H' → tz ⟨nx, rt, bk, ct⟩ σ' H') : tCut ts tz ⟨nx, rt, bk, ct⟩ σ H := ⟨Mid, h, k⟩
/-! dicts -/
theorem d_get2 {td ty tx : TE} (q : td σ H fun x H1 => ∃ a, x = .ref a ∧ IsD H1 a ∧ ty σ H1 fun y H2 => tx σ H2 fun z H3 => ∃ o, DGet H3 a y o ∧ Q (o.getD z) H3) : tDGet2 td ty tx σ H Q := q
theorem d_get {td ty : TE} (q : td σ H fun x H1 => ty σ H1 fun y H2 => ∃ a v, x = .ref a ∧ DGet H2 a y (some v) ∧ Q v H2) : tDGet td ty σ H Q := q
theorem d_put {td ty tv : TE} (q : tv σ H fun v H1 => td σ H1 fun x H2 => ty σ H2 fun y H3 => ∃ a H4, x = .ref a ∧ DPut H3 a y v H4 ∧ nx σ H4) : sDPut td ty tv ⟨nx, rt, bk, ct⟩ σ H := q
end

/-! data: tuples of data, lists of data -/
mutual
inductive IsD (H : Hp) : V → PyData → Prop
  | non : IsD H .non .none
  | bl (b : Bool) : IsD H (.bl b) (.bool b)
  | int (i : Int) : IsD H (.int i) (.int i)
  | str (x : Str) : IsD H (.str x) (.str x)
  | tup {q : Addr} {vs : List V} {ds : List PyData} : H q = some (.tup vs) → IsDs H vs ds → IsD H (.ref q) (.tuple ds)
inductive IsDs (H : Hp) : List V → List PyData → Prop
  | nil : IsDs H [] []
  | cons {v : V} {vs : List V} {d : PyData} {ds : List PyData} : IsD H v d → IsDs H vs ds → IsDs H (v :: vs) (d :: ds)
end
mutual
theorem IsD.tx {H H' : Hp} (t : Tx H H') : ∀ {v : V} {d : PyData}, IsD H v d → IsD H' v d
  | _, _, .non => .non
  | _, _, .bl b => .bl b
  | _, _, .int i => .int i
  | _, _, .str x => .str x
  | _, _, .tup h r => .tup (t _ _ h) (IsDs.tx t r)
theorem IsDs.tx {H H' : Hp} (t : Tx H H') : ∀ {vs : List V} {ds : List PyData}, IsDs H vs ds → IsDs H' vs ds
  | _, _, .nil => .nil
  | _, _, .cons h r => .cons (IsD.tx t h) (IsDs.tx t r)
end
mutual
theorem IsD.dp {K : PySem.W.Frag} {H : Hp} : ∀ {v : V} {d : PyData}, IsD H v d → Dp K H v d
  | _, _, .non => .non
  | _, _, .bl b => .bl b
  | _, _, .int i => .int i
  | _, _, .str x => .str x
  | _, _, .tup h r => .tup (SqT.of h) (IsDs.dp r)
theorem IsDs.dp {K : PySem.W.Frag} {H : Hp} : ∀ {vs : List V} {ds : List PyData}, IsDs H vs ds → DpAll K H vs ds
  | _, _, .nil => .nil
  | _, _, .cons h r => .cons (IsD.dp h) (IsDs.dp r)
end
theorem IsDs.len {H : Hp} : ∀ {vs : List V} {ds : List PyData}, IsDs H vs ds → vs.length = ds.length
  | _, _, .nil => rfl
  | _, _, .cons _ r => congrArg (· + 1) r.len
theorem IsDs.get {H : Hp} : ∀ {vs : List V} {ds : List PyData} {i : Nat} {v : V}, IsDs H vs ds → vs[i]? = some v → ∃ d, ds[i]? = some d ∧ IsD H v d
  | _, _, _, _, .nil, e => by cases e
  | _, _, 0, _, .cons h _, e => by cases e; exact ⟨_, rfl, h⟩
  | _, _, i + 1, _, .cons _ r, e => r.get (i := i) e
theorem IsDs.snoc {H : Hp} {v : V} {d : PyData} (h : IsD H v d) : ∀ {vs : List V} {ds : List PyData}, IsDs H vs ds → IsDs H (vs ++ [v]) (ds ++ [d])
  | _, _, .nil => .cons h .nil
  | _, _, .cons k r => .cons k (r.snoc h)
theorem IsDs.app {H : Hp} : ∀ {vs ws : List V} {ds es : List PyData}, IsDs H vs ds → IsDs H ws es → IsDs H (vs ++ ws) (ds ++ es)
  | _, _, _, _, .nil, s => s
  | _, _, _, _, .cons k r, s => .cons k (r.app s)
/-- data at a value, for good -/
def DV (v : V) (d : PyData) : Asn := ⟨fun f H => IsD H v d ∧ ∀ a, ¬ f a, fun _ _ h a z => (h.2 a z).elim, fun _ _ _ h _ t => ⟨h.1.tx t, h.2⟩⟩
def DVs (vs : List V) (ds : List PyData) : Asn := ⟨fun f H => IsDs H vs ds ∧ ∀ a, ¬ f a, fun _ _ h a z => (h.2 a z).elim, fun _ _ _ h _ t => ⟨h.1.tx t, h.2⟩⟩
/-- a list of data -/
def LD (a : Addr) (ds : List PyData) : Asn := Exs fun vs : List V => Pk [At a (.lst vs), DVs vs ds]
section
variable {l : List Asn} {H : Hp} {i : Nat} {A : Asn} {a : Addr} {ds : List PyData} {vs : List V} {v : V} {d : PyData}
theorem Sep.dv (S : Sep l H) (e : l[i]? = some (DV v d)) : IsD H v d := (S.get e).elim fun _ h => h.1
theorem Sep.dvs (S : Sep l H) (e : l[i]? = some (DVs vs ds)) : IsDs H vs ds := (S.get e).elim fun _ h => h.1
/-- what is true for good is added -/
theorem Sep.know (S : Sep l H) (h : A.h (fun _ => False) H) : Sep (A :: l) H := by
  obtain ⟨g, S⟩ := S
  exact ⟨_, .cons h S fun _ z => z.elim⟩
theorem Sep.addD (S : Sep l H) (h : IsD H v d) : Sep (DV v d :: l) H := S.know ⟨h, fun _ z => z⟩
theorem Sep.addDs (S : Sep l H) (h : IsDs H vs ds) : Sep (DVs vs ds :: l) H := S.know ⟨h, fun _ z => z⟩
theorem Sep.addT {q : Addr} {xs : List V} (S : Sep l H) (h : H q = some (.tup xs)) : Sep (Tp q xs :: l) H := S.know ⟨h, fun _ z => z⟩
theorem ld_open (S : Sep (LD a ds :: l) H) : ∃ vs, IsDs H vs ds ∧ Sep (At a (.lst vs) :: DVs vs ds :: l) H := by
  obtain ⟨vs, S⟩ := S.ex
  have S := S.open'
  exact ⟨vs, S.dvs (i := 1) rfl, S⟩
theorem ld_close (h : IsDs H vs ds) (S : Sep (At a (.lst vs) :: l) H) : Sep (LD a ds :: l) H :=
  Sep.ex' (x := vs) (Sep.close' (l := [_, _]) ((S.addDs h).reord [1, 0]))
theorem ld_dp {K : PySem.W.Frag} (S : Sep l H) (e : l[i]? = some (LD a ds)) : Dp K H (.ref a) (.list ds) := by
  obtain ⟨vs, h, S⟩ := ld_open (S.pick e)
  exact .lst (SqL.of (S.at (i := 0) rfl)) h.dp
end
/-- pairs of a word and a number -/
def pd (x : Str × Int) : PyData := .tuple [.str x.1, .int x.2]
abbrev pds (ps : List (Str × Int)) : List PyData := ps.map pd
theorem isD_pair {H : Hp} {v : V} {x : Str × Int} (h : IsD H v (pd x)) : ∃ q, v = .ref q ∧ H q = some (.tup [.str x.1, .int x.2]) := by
  cases h with
  | @tup q vs _ hq r =>
    cases r with
    | cons h1 r =>
      cases h1
      cases r with
      | cons h2 r =>
        cases h2
        cases r
        exact ⟨q, rfl, hq⟩
theorem pair_isD {H : Hp} {q : Addr} {w : Str} {n : Int} (h : H q = some (.tup [.str w, .int n])) : IsD H (.ref q) (pd (w, n)) := .tup h (.cons (.str w) (.cons (.int n) .nil))
theorem ps_get {H : Hp} {vs : List V} {ps : List (Str × Int)} {i : Nat} {v : V} (h : IsDs H vs (pds ps)) (e : vs[i]? = some v) : ∃ q x, ps[i]? = some x ∧ v = .ref q ∧ H q = some (.tup [.str x.1, .int x.2]) := by
  obtain ⟨d, e1, h1⟩ := h.get e
  rw [List.getElem?_map] at e1
  cases e2 : ps[i]? with
  | none => rw [e2] at e1; cases e1
  | some x =>
    rw [e2] at e1
    cases e1
    obtain ⟨q, rfl, hq⟩ := isD_pair h1
    exact ⟨q, x, rfl, rfl, hq⟩
theorem ps_len {H : Hp} {vs : List V} {ps : List (Str × Int)} (h : IsDs H vs (pds ps)) : vs.length = ps.length := by rw [h.len, List.length_map]
/-! ### words -/
def abc : List Nat := ("abcdefghijklmnopqrstuvwxyz" : Str).cps.toList
def Wd (w : Str) : Prop := 1 ≤ w.length ∧ w.length ≤ 8 ∧ ∀ c ∈ w.cps.toList, c ∈ abc
instance (w : Str) : Decidable (Wd w) := by unfold Wd; infer_instance
/-- good pairs -/
def Gp (ps : List (Str × Int)) : Prop := ∀ x ∈ ps, Wd x.1 ∧ -(10 ^ 30) < x.2 ∧ x.2 < 10 ^ 30
theorem abc_len : abc.length = 26 := by decide +kernel
section
variable {l : List Asn} {H : Hp} {K : PySem.W.Frag} {Q : VK} {n : Int} {z : Str}
theorem x_strI (hz : z.length ≤ 1000) (h0 : 0 ≤ n) (h1 : n < z.cps.toList.length) (k : ∀ c, c ∈ z.cps.toList → Q (.str ⟨#[c]⟩) H) : rIx K (.str z) (.int n) H Q := by
  obtain ⟨y, e1, e2⟩ := atI_in h0 h1
  exact x_str (Nat.le_trans hz (by decide)) e2 (k y (List.mem_of_getElem? e1))
theorem str_len_app (a b : Str) : (a ++ b).length = a.length + b.length := by
  show (a.cps ++ b.cps).size = _
  rw [Array.size_append]; rfl
theorem str_app (a b : Str) : (a ++ b).cps.toList = a.cps.toList ++ b.cps.toList := by
  show (a.cps ++ b.cps).toList = _
  rw [Array.toList_append]
end

/-! dicts of words and numbers -/
/-- the number of a word -/
def num : List (Str × Int) → Str → Int
  | [], _ => 0
  | x :: m, w => if x.1 = w then x.2 else num m w
def keys (m : List (Str × Int)) : List Str := m.map (·.1)
abbrev mp (m : List (Str × Int)) : List (Key × V) := m.map fun x => (Sum.inr x.1, V.int x.2)
def mput : List (Str × Int) → Str → Int → List (Str × Int)
  | [], w, n => [(w, n)]
  | x :: m, w, n => if x.1 = w then (x.1, n) :: m else x :: mput m w n
theorem num_put : ∀ (m : List (Str × Int)) (w : Str) (n : Int) (v : Str), num (mput m w n) v = if v = w then n else num m v
  | [], w, n, v => by
    show (if w = v then n else 0) = _
    by_cases h : v = w
    · rw [if_pos h, if_pos h.symm]
    · rw [if_neg h, if_neg (fun z => h z.symm)]; rfl
  | x :: m, w, n, v => by
    unfold mput
    by_cases hx : x.1 = w
    · rw [if_pos hx]
      show (if x.1 = v then n else num m v) = if v = w then n else (if x.1 = v then x.2 else num m v)
      by_cases h : v = w
      · rw [if_pos h, if_pos (by rw [hx, h])]
      · rw [if_neg h, if_neg (fun z => h (by rw [← z, hx])), if_neg (fun z => h (by rw [← z, hx]))]
    · rw [if_neg hx]
      show (if x.1 = v then x.2 else num (mput m w n) v) = if v = w then n else (if x.1 = v then x.2 else num m v)
      rw [num_put m w n v]
      by_cases h : v = w
      · rw [if_pos h, if_pos h, if_neg (fun z => hx (by rw [z, h]))]
      · rw [if_neg h, if_neg h]
theorem keys_put : ∀ (m : List (Str × Int)) (w : Str) (n : Int), keys (mput m w n) = if w ∈ keys m then keys m else keys m ++ [w]
  | [], w, n => by
    rw [if_neg (by intro h; cases h)]; rfl
  | x :: m, w, n => by
    unfold mput
    by_cases hx : x.1 = w
    · rw [if_pos hx, if_pos (by show w ∈ x.1 :: keys m; rw [hx]; exact List.mem_cons_self)]; rfl
    · rw [if_neg hx]
      show x.1 :: keys (mput m w n) = if w ∈ x.1 :: keys m then x.1 :: keys m else (x.1 :: keys m) ++ [w]
      rw [keys_put m w n]
      by_cases h : w ∈ keys m
      · rw [if_pos h, if_pos (show w ∈ x.1 :: keys m from List.mem_cons_of_mem _ h)]
      · rw [if_neg h, if_neg (show ¬ w ∈ x.1 :: keys m by
          intro z
          rcases List.mem_cons.1 z with z | z
          · exact hx z.symm
          · exact h z), List.cons_append]
theorem nodup_put {m : List (Str × Int)} (h : (keys m).Nodup) (w : Str) (n : Int) : (keys (mput m w n)).Nodup := by
  rw [keys_put]
  split
  · exact h
  · rename_i hw
    exact nd_snoc h hw
theorem len_put (m : List (Str × Int)) (w : Str) (n : Int) : (mput m w n).length ≤ m.length + 1 := by
  have e := congrArg List.length (keys_put m w n)
  unfold keys at e
  rw [List.length_map] at e
  rw [e]
  split <;> simp
theorem len_put_in {m : List (Str × Int)} {w : Str} (n : Int) (h : w ∈ keys m) : (mput m w n).length = m.length := by
  have e := congrArg List.length (keys_put m w n)
  rw [if_pos h] at e
  unfold keys at e
  rw [List.length_map, List.length_map] at e
  exact e
theorem mem_put {m : List (Str × Int)} {w v : Str} {n : Int} (h : v ∈ keys (mput m w n)) : v = w ∨ v ∈ keys m := by
  rw [keys_put] at h
  split at h
  · exact .inr h
  · rcases List.mem_append.1 h with h | h
    · exact .inr h
    · exact .inl (List.mem_singleton.1 h)
theorem val_mp : ∀ (m : List (Str × Int)) (w : Str), valV (mp m) (Sum.inr w : Key) = if w ∈ keys m then some (V.int (num m w)) else none
  | [], w => by rw [if_neg (by intro h; cases h)]; rfl
  | x :: m, w => by
    by_cases hx : x.1 = w
    · rw [if_pos (show w ∈ keys (x :: m) by rw [← hx]; exact List.mem_cons_self)]
      show valV ((Sum.inr x.1, V.int x.2) :: mp m) (Sum.inr w : Key) = some (V.int (if x.1 = w then x.2 else num m w))
      rw [if_pos hx]
      exact valV_pos (congrArg Sum.inr hx)
    · show valV ((Sum.inr x.1, V.int x.2) :: mp m) (Sum.inr w : Key) = _
      rw [valV_neg (show ¬ (Sum.inr x.1 : Key) = Sum.inr w from fun z => hx (Sum.inr.inj z)), val_mp m w]
      show (if w ∈ keys m then some (V.int (num m w)) else none) = if w ∈ x.1 :: keys m then some (V.int (if x.1 = w then x.2 else num m w)) else none
      rw [if_neg hx]
      by_cases h : w ∈ keys m
      · rw [if_pos h, if_pos (List.mem_cons_of_mem _ h)]
      · rw [if_neg h, if_neg (by
          intro z
          rcases List.mem_cons.1 z with z | z
          · exact hx z.symm
          · exact h z)]
theorem put_mp (m : List (Str × Int)) (w : Str) (n : Int) (hn : (keys m).Nodup) : putK (mp m) (Sum.inr w : Key) (V.int n) = mp (mput m w n) := by
  induction m with
  | nil => rfl
  | cons x m ih =>
    have ih := ih (List.nodup_cons.1 hn).2
    have hv := val_mp (x :: m) w
    by_cases hx : x.1 = w
    · unfold mput
      rw [if_pos hx]
      unfold putK
      rw [if_pos (by rw [valV_any, hv, if_pos (show w ∈ keys (x :: m) by rw [← hx]; exact List.mem_cons_self)]; rfl)]
      show _ :: _ = _ :: _
      have hw : ¬ w ∈ keys m := by rw [← hx]; exact (List.nodup_cons.1 hn).1
      congr 1
      · show (if (Sum.inr x.1 : Key) = Sum.inr w then (Sum.inr x.1, V.int n) else (Sum.inr x.1, V.int x.2)) = _
        rw [if_pos (congrArg Sum.inr hx)]
      · show (mp m).map _ = mp m
        rw [List.map_map]
        apply List.map_congr_left
        intro y hy
        show (if (Sum.inr y.1 : Key) = Sum.inr w then (Sum.inr y.1, V.int n) else (Sum.inr y.1, V.int y.2)) = _
        rw [if_neg (fun z => hw (by rw [← Sum.inr.inj z]; exact List.mem_map_of_mem hy))]
    · unfold mput
      rw [if_neg hx]
      show putK ((Sum.inr x.1, V.int x.2) :: mp m) _ _ = (Sum.inr x.1, V.int x.2) :: mp (mput m w n)
      rw [← ih]
      have hne : ¬ (Sum.inr x.1 : Key) = Sum.inr w := fun z => hx (Sum.inr.inj z)
      unfold putK
      rw [List.any_cons, decide_eq_false hne, Bool.false_or]
      by_cases ha : ((mp m).any fun kv => decide (kv.1 = (Sum.inr w : Key))) = true
      · rw [if_pos ha, if_pos ha, List.map_cons]
        congr 1
        show (if (Sum.inr x.1 : Key) = Sum.inr w then _ else _) = _
        rw [if_neg hne]
      · rw [if_neg ha, if_neg ha]; rfl
theorem num_none {m : List (Str × Int)} {w : Str} (h : ¬ w ∈ keys m) : num m w = 0 := by
  induction m with
  | nil => rfl
  | cons x m ih =>
    show (if x.1 = w then x.2 else num m w) = 0
    rw [if_neg (fun z => h (by rw [← z]; exact List.mem_cons_self)), ih (fun z => h (List.mem_cons_of_mem _ z))]
theorem num_in {m : List (Str × Int)} (hn : (keys m).Nodup) {x : Str × Int} (h : x ∈ m) : num m x.1 = x.2 := by
  induction m with
  | nil => cases h
  | cons y m ih =>
    show (if y.1 = x.1 then y.2 else num m x.1) = x.2
    rcases List.mem_cons.1 h with h | h
    · rw [h, if_pos rfl]
    · rw [if_neg (fun z => (List.nodup_cons.1 hn).1 (by show y.1 ∈ keys m; rw [z]; exact List.mem_map_of_mem h))]
      exact ih (List.nodup_cons.1 hn).2 h
theorem key_num {m : List (Str × Int)} (hn : (keys m).Nodup) {w : Str} (h : w ∈ keys m) : (w, num m w) ∈ m := by
  obtain ⟨x, hx, e⟩ := List.mem_map.1 h
  have q := num_in hn hx
  rw [← e, q]
  exact hx
/-- the sum of a word's numbers -/
def psum : List (Str × Int) → Str → Int
  | [], _ => 0
  | x :: ps, w => (if x.1 = w then x.2 else 0) + psum ps w
theorem psum_app : ∀ (ps qs : List (Str × Int)) (w : Str), psum (ps ++ qs) w = psum ps w + psum qs w
  | [], qs, w => by show _ = 0 + _; rw [Int.zero_add]; rfl
  | x :: ps, qs, w => by
    show _ + psum (ps ++ qs) w = _ + psum ps w + _
    rw [psum_app ps qs w, Int.add_assoc]
/-! steps -/
section
variable {σ : St} {H : Hp} {i j : Nat} {v x y z : V} {td ty tx tv : TE} {Q : VK} {l : List Asn} {d : Addr} {m : List (Str × Int)} {w : Str} {n : Int} {nx bk ct : St → Hp → Prop} {rt : VK} {RV : V → Prop} {RO : Option V → Prop} {RB : Bool → Prop} {RH : Hp → Prop}
theorem e_isd {e : Nat} {kvs : List (Key × V)} {R : Addr → Prop} (S : Sep l H) (hi : l[e]? = some (At d (.dK kvs))) (q : R d) : ∃ a, V.ref d = .ref a ∧ L2.IsD H a ∧ R a := ⟨d, rfl, .inl ⟨kvs, .inl (S.at hi)⟩, q⟩
theorem e_isdF {e : Nat} {kvs : List (Key × V)} {od : Obj} {R : Addr → Prop} (S : Sep l H) (hi : l[e]? = some (At d (.frz od (.dK kvs)))) (q : R d) : ∃ a, V.ref d = .ref a ∧ L2.IsD H a ∧ R a := ⟨d, rfl, .inl ⟨kvs, .inr ⟨od, S.at hi⟩⟩, q⟩
theorem dget_of {kvs : List (Key × V)} (h : Rd H d (.dK kvs)) : DGet H d (.str w) (valV kvs (Sum.inr w)) := .inl ⟨kvs, Sum.inr w, h, rfl, rfl⟩
theorem get0_of {R : Option V → Prop} (h : Rd H d (.dK (mp m))) (q : ∀ o : Option V, o.getD (.int 0) = .int (num m w) → R o) : ∃ o, DGet H d (.str w) o ∧ R o := ⟨_, dget_of h, q _ (by
  rw [val_mp]
  by_cases hw : w ∈ keys m
  · rw [if_pos hw]; rfl
  · rw [if_neg hw, num_none hw]; rfl)⟩
theorem e_get0 {e : Nat} {R : Option V → Prop} (S : Sep l H) (hi : l[e]? = some (At d (.dK (mp m)))) (q : ∀ o : Option V, o.getD (.int 0) = .int (num m w) → R o) : ∃ o, DGet H d (.str w) o ∧ R o := get0_of (.inl (S.at hi)) q
theorem e_get0F {e : Nat} {od : Obj} {R : Option V → Prop} (S : Sep l H) (hi : l[e]? = some (At d (.frz od (.dK (mp m))))) (q : ∀ o : Option V, o.getD (.int 0) = .int (num m w) → R o) : ∃ o, DGet H d (.str w) o ∧ R o := get0_of (.inr ⟨od, S.at hi⟩) q
theorem geti_of (h : Rd H d (.dK (mp m))) (hw : w ∈ keys m) (q : RV (.int (num m w))) : ∃ a v, V.ref d = .ref a ∧ DGet H a (.str w) (some v) ∧ RV v := ⟨d, _, rfl, by
  have e := dget_of (w := w) h
  rw [val_mp, if_pos hw] at e
  exact e, q⟩
theorem e_getI {e : Nat} (S : Sep l H) (hi : l[e]? = some (At d (.dK (mp m)))) (hw : w ∈ keys m) (q : RV (.int (num m w))) : ∃ a v, V.ref d = .ref a ∧ DGet H a (.str w) (some v) ∧ RV v := geti_of (.inl (S.at hi)) hw q
theorem e_getIF {e : Nat} {od : Obj} (S : Sep l H) (hi : l[e]? = some (At d (.frz od (.dK (mp m))))) (hw : w ∈ keys m) (q : RV (.int (num m w))) : ∃ a v, V.ref d = .ref a ∧ DGet H a (.str w) (some v) ∧ RV v := geti_of (.inr ⟨od, S.at hi⟩) hw q
theorem e_putI {e : Nat} (S : Sep l H) (hi : l[e]? = some (At d (.dK (mp m)))) (hn : (keys m).Nodup) (hz : m.length < 100000) (k : ∀ H', Sep (l.set e (At d (.dK (mp (mput m w n))))) H' → RH H') :
    ∃ a H4, V.ref d = .ref a ∧ DPut H a (.str w) (.int n) H4 ∧ RH H4 := by
  refine ⟨d, _, rfl, DPut.k (k := Sum.inr w) (S.at hi) (by rw [List.length_map]; exact Nat.lt_of_lt_of_le hz (by decide)), ?_⟩
  rw [put_mp m w n hn]
  exact k _ (S.upd hi fun _ z => nomatch z)
theorem e_in {e : Nat} (S : Sep l H) (hi : l[e]? = some (At d (.dK (mp m)))) (q : ∀ o : Option V, o.isSome = decide (w ∈ keys m) → RO o) : ∃ a o, V.ref d = .ref a ∧ DGet H a (.str w) o ∧ RO o := ⟨d, _, rfl, dget_of (.inl (S.at hi)), q _ (by
  rw [val_mp]
  by_cases hw : w ∈ keys m
  · rw [decide_eq_true hw, if_pos hw]; rfl
  · rw [decide_eq_false hw, if_neg hw]; rfl)⟩
theorem d_in (q : ty σ H fun y H1 => td σ H1 fun x H2 => ∃ a o, x = .ref a ∧ DGet H2 a y o ∧ Q (.bl o.isSome) H2) : tDIn ty td σ H Q := q
end

/-! more steps -/
theorem r_dnew {σ : St} {H : Hp} {Q : VK} (q : ∀ p, H p = none → Q (.ref p) (upd H p (.dK []))) : tDNewK σ H Q := q
theorem r_yes {σ : St} {H : Hp} {Q : Bool → Hp → Prop} (q : Q true H) : tYes σ H Q := q
theorem l_wipe {σ σ2 : St} {vs : List Nat} {P : Prop} (h : wipe σ2 vs = wipe σ vs) (q : P) : wipe σ2 vs = wipe σ vs ∧ P := ⟨h, q⟩
local macro_rules | `(tactic| walk_at "v1") => `(tactic| (first
  | with_reducible refine r_yes ?_
  | ((with_reducible refine l_wipe ?h ?_); (case h => rfl))
  | ((with_reducible refine' lc_put1 (by assumption) ?hi ?hz ?_); (case hi => walk_at "has"); (case hz => (first | decide | omega | (simp only [List.length_map, List.length_take, List.length_append]; omega))); (generalize hg : upd _ _ _ = H1); have S := upd_eqL (by assumption) (by walk_at "has") hg; clear hg; simp only [List.set] at S)
  | with_reducible refine r_forR1 ?_
  | with_reducible refine r_forR2 ?_
  | with_reducible refine r_forL ?_
  | with_reducible refine r_forT ?_
  | with_reducible refine r_forE ?_
  | with_reducible refine r_lcL ?_
  | with_reducible refine r_lcT ?_
  | with_reducible refine r_lcR1 ?_
  | with_reducible refine r_lcS ?_
  | with_reducible refine r_dnew ?_
  | with_reducible refine d_get2 ?_
  | with_reducible refine d_get ?_
  | with_reducible refine d_put ?_
  | with_reducible refine d_in ?_
  | ((with_reducible refine' g_tup (by assumption) ?hi ?hk ?_); (case hi => walk_at "has"); (case hk => rfl))
  | ((with_reducible refine' e_isd (by assumption) ?hi ?_); (case hi => walk_at "has"))
  | ((with_reducible refine' e_isdF (by assumption) ?hi ?_); (case hi => walk_at "has"))
  | ((with_reducible refine' e_get0 (by assumption) ?hi ?_); (case hi => walk_at "has"); (refine fun o ho => ?_); rw [ho]; clear ho)
  | ((with_reducible refine' e_get0F (by assumption) ?hi ?_); (case hi => walk_at "has"); (refine fun o ho => ?_); rw [ho]; clear ho)
  | ((with_reducible refine' e_getI (by assumption) ?hi (by assumption) ?_); (case hi => walk_at "has"))
  | ((with_reducible refine' e_getIF (by assumption) ?hi (by assumption) ?_); (case hi => walk_at "has"))
  | ((with_reducible refine' e_putI (by assumption) ?hi (by assumption) ?hz ?_); (case hi => walk_at "has"); (case hz => (first | decide | omega)); intro _ S; simp only [List.set] at S)
  | ((with_reducible refine' e_in (by assumption) ?hi ?_); (case hi => walk_at "has"); (refine fun o ho => ?_); rw [ho]; clear ho)))

/-! words in order; what is told of a number function -/
/-! ### the order of texts -/
def lt' (a b : Str) : Prop := PySem.Spec.ltCps a.cps.toList b.cps.toList = true
theorem ltc_irr : ∀ (a : List Nat), PySem.Spec.ltCps a a = false
  | [] => rfl
  | x :: r => by
    show (decide (x < x) || (x == x && PySem.Spec.ltCps r r)) = false
    rw [ltc_irr r]; simp
theorem ltc_tri : ∀ (a b : List Nat), PySem.Spec.ltCps a b = false → PySem.Spec.ltCps b a = false → a = b
  | [], [], _, _ => rfl
  | [], _ :: _, h, _ => by cases h
  | _ :: _, [], _, h => by cases h
  | x :: r, y :: t, h1, h2 => by
    have h1 : (decide (x < y) || (x == y && PySem.Spec.ltCps r t)) = false := h1
    have h2 : (decide (y < x) || (y == x && PySem.Spec.ltCps t r)) = false := h2
    simp only [Bool.or_eq_false_iff, decide_eq_false_iff_not, Bool.and_eq_false_iff, beq_eq_false_iff_ne] at h1 h2
    have e : x = y := by omega
    subst e
    rw [ltc_tri r t (h1.2.resolve_left (fun z => z rfl)) (h2.2.resolve_left (fun z => z rfl))]
theorem ltc_trans : ∀ (a b c : List Nat), PySem.Spec.ltCps a b = true → PySem.Spec.ltCps b c = true → PySem.Spec.ltCps a c = true
  | [], [], _, h, _ => by cases h
  | [], _ :: _, [], _, h => by cases h
  | [], _ :: _, _ :: _, _, _ => rfl
  | _ :: _, [], _, h, _ => by cases h
  | _ :: _, _ :: _, [], _, h => by cases h
  | x :: r, y :: t, z :: u, h1, h2 => by
    have h1 : (decide (x < y) || (x == y && PySem.Spec.ltCps r t)) = true := h1
    have h2 : (decide (y < z) || (y == z && PySem.Spec.ltCps t u)) = true := h2
    show (decide (x < z) || (x == z && PySem.Spec.ltCps r u)) = true
    simp only [Bool.or_eq_true, decide_eq_true_eq, Bool.and_eq_true, beq_iff_eq] at h1 h2 ⊢
    rcases h1 with h1 | ⟨e1, h1⟩
    · rcases h2 with h2 | ⟨e2, h2⟩
      · exact .inl (by omega)
      · exact .inl (by omega)
    · rcases h2 with h2 | ⟨e2, h2⟩
      · exact .inl (by omega)
      · exact .inr ⟨by omega, ltc_trans r t u h1 h2⟩
theorem str_ext {a b : Str} (h : a.cps.toList = b.cps.toList) : a = b := by
  cases a; cases b
  congr
  exact Array.ext' h
theorem lt_tri {a b : Str} (h : ¬ lt' a b) (h2 : ¬ lt' b a) : a = b :=
  str_ext (ltc_tri _ _ (Bool.eq_false_iff.2 h) (Bool.eq_false_iff.2 h2))
theorem lt_irr (a : Str) : ¬ lt' a a := by
  unfold lt'
  rw [ltc_irr]
  exact Bool.false_ne_true
theorem lt_trans' {a b c : Str} (h : lt' a b) (h2 : lt' b c) : lt' a c := ltc_trans _ _ _ h h2
/-- ascending, each once -/
def Asc (ws : List Str) : Prop := ws.Pairwise lt'
theorem asc_of_rising : ∀ (p : Str) (ws : List Str), PyProof.Rows.risingS p ws = true → (p :: ws).Nodup → Asc (p :: ws)
  | p, [], _, _ => List.pairwise_singleton _ _
  | p, x :: r, h, hn => by
    have h : (!PySem.Spec.ltCps x.cps.toList p.cps.toList && PyProof.Rows.risingS x r) = true := h
    simp only [Bool.and_eq_true, Bool.not_eq_true'] at h
    have ih := asc_of_rising x r h.2 (List.nodup_cons.1 hn).2
    have hpx : lt' p x := Classical.byContradiction fun z => by
      have e := lt_tri z (by unfold lt'; rw [h.1]; exact Bool.false_ne_true)
      exact (List.nodup_cons.1 hn).1 (by rw [e]; exact List.mem_cons_self)
    refine List.pairwise_cons.2 ⟨fun y hy => ?_, ih⟩
    rcases List.mem_cons.1 hy with rfl | hy
    · exact hpx
    · exact lt_trans' hpx ((List.pairwise_cons.1 ih).1 y hy)
theorem asc_of_sorted {ws : List Str} (h : PyProof.Rows.sortedS ws = true) (hn : ws.Nodup) : Asc ws := by
  cases ws with
  | nil => exact List.Pairwise.nil
  | cons p r => exact asc_of_rising p r h hn
theorem asc_same : ∀ {xs ys : List Str}, Asc xs → Asc ys → (∀ w, w ∈ xs ↔ w ∈ ys) → xs = ys
  | [], [], _, _, _ => rfl
  | [], y :: ys, _, _, h => by cases (h y).2 List.mem_cons_self
  | x :: xs, [], _, _, h => by cases (h x).1 List.mem_cons_self
  | x :: xs, y :: ys, hx, hy, h => by
    obtain ⟨hx1, hx2⟩ := List.pairwise_cons.1 hx
    obtain ⟨hy1, hy2⟩ := List.pairwise_cons.1 hy
    have e : x = y := by
      rcases List.mem_cons.1 ((h x).1 List.mem_cons_self) with e | m1
      · exact e
      · rcases List.mem_cons.1 ((h y).2 List.mem_cons_self) with e | m2
        · exact e.symm
        · exact (lt_irr x (lt_trans' (hx1 y m2) (hy1 x m1))).elim
    subst e
    rw [asc_same hx2 hy2 fun w => ?_]
    constructor
    · intro m
      rcases List.mem_cons.1 ((h w).1 (List.mem_cons_of_mem _ m)) with rfl | q
      · exact (lt_irr w (hx1 w m)).elim
      · exact q
    · intro m
      rcases List.mem_cons.1 ((h w).2 (List.mem_cons_of_mem _ m)) with rfl | q
      · exact (lt_irr w (hy1 w m)).elim
      · exact q
/-- L is what is told of the numbers g: the words with a number that is not 0, ascending -/
def Told (g : Str → Int) (L : List (Str × Int)) : Prop := Asc (keys L) ∧ (∀ w, w ∈ keys L ↔ g w ≠ 0) ∧ ∀ x ∈ L, x.2 = g x.1
theorem told_same {g : Str → Int} {L M : List (Str × Int)} (h : Told g L) (h2 : Told g M) : L = M := by
  have e : keys L = keys M := asc_same h.1 h2.1 fun w => by rw [h.2.1 w, h2.2.1 w]
  have r : ∀ {L : List (Str × Int)}, (∀ x ∈ L, x.2 = g x.1) → L = (keys L).map fun w => (w, g w) := fun {L} q => by
    unfold keys
    rw [List.map_map]
    conv => lhs; rw [← List.map_id L]
    apply List.map_congr_left
    intro x hx
    show x = (x.1, g x.1)
    rw [← q x hx]
  rw [r h.2.2, r h2.2.2, e]
/-- the words of a dict in order, those without a number left out -/
def toldOf (m : List (Str × Int)) (ws : List Str) : List (Str × Int) := (ws.filter fun w => decide (num m w ≠ 0)).map fun w => (w, num m w)
theorem told_of {m : List (Str × Int)} {ws : List Str} (hs : Asc ws) (hw : ∀ w, w ∈ ws ↔ w ∈ keys m) : Told (num m) (toldOf m ws) := by
  have ek : keys (toldOf m ws) = ws.filter fun w => decide (num m w ≠ 0) := by
    unfold keys toldOf
    rw [List.map_map]
    conv => rhs; rw [← List.map_id (ws.filter _)]
    exact List.map_congr_left fun _ _ => rfl
  refine ⟨?_, fun w => ?_, fun x hx => ?_⟩
  · rw [ek]
    exact List.Pairwise.filter _ hs
  · rw [ek, List.mem_filter, decide_eq_true_eq, hw]
    refine ⟨fun h => h.2, fun h => ⟨Classical.byContradiction fun z => h (num_none z), h⟩⟩
  · obtain ⟨w, _, rfl⟩ := List.mem_map.1 hx
    rfl
theorem take_snoc {α : Type} {l : List α} {i : Nat} {x : α} (h : l[i]? = some x) : l.take (i + 1) = l.take i ++ [x] := by rw [List.take_add_one, h]; rfl
/-! steps -/
section
variable {σ : St} {H : Hp} {Q : VK} {l : List Asn} {p : Addr} {ws : List Str} {K : PySem.W.Frag}
def gSorted (K : PySem.W.Frag) : List V → Hp → VK → Prop := rSortedS K
theorem call_gSorted {X : Cx} {K : PySem.W.Frag} (hK : X.K = K) : CallR X (.builtin "sorted") (gSorted K) := by rw [← hK]; exact cr_sortedS
theorem c_sorted {e : Nat} (S : Sep l H) (hi : l[e]? = some (At p (.lst (ws.map V.str)))) (hz : ws.length < 64) (k : ∀ (ys : List Str) d H', ys.Perm ws → PyProof.Rows.sortedS ys = true → Sep (At d (.lst (ys.map V.str)) :: l) H' → Q (.ref d) H') : gSorted K [.ref p] H Q :=
  ⟨p, ws, rfl, SqL.of (S.at hi), hz, fun ys d h1 h2 hd => k ys d _ h1 h2 (S.new hd)⟩
def gStrS : List V → Hp → VK → Prop := fun xs H Q => ∃ a, xs = [.str a] ∧ Q (.str a) H
theorem call_gStrS {X : Cx} : CallR X (.type "str") gStrS := SkE.call_str_str
theorem c_strS {w : Str} (q : Q (.str w) H) : gStrS [.str w] H Q := ⟨w, rfl, q⟩
end
local macro_rules | `(tactic| walk_at "v1") => `(tactic| (with_reducible refine c_strS ?_))

/-! isinstance -/
def gIsi (K : PySem.W.Frag) : List V → Hp → VK → Prop := fun xs H Q => rIsi K xs H Q ∨ rIsiT K xs H Q
theorem call_gIsi {X : Cx} {K : PySem.W.Frag} (hK : X.K = K) : CallR X (.builtin "isinstance") (gIsi K) := by rw [← hK]; exact CallR.or call_isi call_isiT
section
variable {K : PySem.W.Frag} {H : Hp} {Q : VK} {l : List Asn} {x : V} {n : Int} {s : Str} {b : Bool} {p : Addr} {xs : List V}
theorem i_one {t u : Value} {c : V} (hc : ClsV c u) (hx : TyX K H x t) (h : PySem.W.kitOne K t u = some b) (q : Q (.bl b) H) : gIsi K [x, c] H Q := .inl ⟨x, c, t, u, b, rfl, hc, hx, h, q⟩
theorem i_ty {a T : String} (hx : TyX K H x (.type a)) (h : kitB a T = some b) (q : Q (.bl b) H) : gIsi K [x, .ty T] H Q := i_one (.ty T) hx (kit_ty h) q
theorem k_ii : kitB "int" "int" = some true := by decide +kernel
theorem k_ib : kitB "int" "bool" = some false := by decide +kernel
theorem k_is : kitB "int" "str" = some false := by decide +kernel
theorem k_ss : kitB "str" "str" = some true := by decide +kernel
theorem k_si : kitB "str" "int" = some false := by decide +kernel
theorem k_sb : kitB "str" "bool" = some false := by decide +kernel
theorem k_bi : kitB "bool" "int" = some true := by decide +kernel
theorem k_bb : kitB "bool" "bool" = some true := by decide +kernel
theorem k_bs : kitB "bool" "str" = some false := by decide +kernel
theorem k_ll : kitB "list" "list" = some true := by decide +kernel
theorem k_lt : kitB "list" "tuple" = some false := by decide +kernel
theorem k_li : kitB "list" "int" = some false := by decide +kernel
theorem k_ls : kitB "list" "str" = some false := by decide +kernel
theorem k_tt : kitB "tuple" "tuple" = some true := by decide +kernel
theorem k_tl : kitB "tuple" "list" = some false := by decide +kernel
theorem k_ti : kitB "tuple" "int" = some false := by decide +kernel
theorem k_ts : kitB "tuple" "str" = some false := by decide +kernel
theorem k_ni : kitB "NoneType" "int" = some false := by decide +kernel
theorem k_ns : kitB "NoneType" "str" = some false := by decide +kernel
theorem k_nt : kitB "NoneType" "tuple" = some false := by decide +kernel
theorem k_nl : kitB "NoneType" "list" = some false := by decide +kernel
theorem k_nb : kitB "NoneType" "bool" = some false := by decide +kernel
theorem k_it : kitB "int" "tuple" = some false := by decide +kernel
theorem k_il : kitB "int" "list" = some false := by decide +kernel
theorem k_st : kitB "str" "tuple" = some false := by decide +kernel
theorem k_sl : kitB "str" "list" = some false := by decide +kernel
theorem i_int {T : String} (h : kitB "int" T = some b) (q : Q (.bl b) H) : gIsi K [.int n, .ty T] H Q := i_ty (.base (.int n)) h q
theorem i_str {T : String} (h : kitB "str" T = some b) (q : Q (.bl b) H) : gIsi K [.str s, .ty T] H Q := i_ty (.base (.str s)) h q
theorem i_bl {T : String} {c : Bool} (h : kitB "bool" T = some b) (q : Q (.bl b) H) : gIsi K [.bl c, .ty T] H Q := i_ty (.base (.bl c)) h q
theorem i_non {T : String} (h : kitB "NoneType" T = some b) (q : Q (.bl b) H) : gIsi K [.non, .ty T] H Q := i_ty (.base .non) h q
theorem i_lst {T : String} {e : Nat} (S : Sep l H) (hi : l[e]? = some (At p (.lst xs))) (h : kitB "list" T = some b) (q : Q (.bl b) H) : gIsi K [.ref p, .ty T] H Q := i_ty (.base (.lst (S.at hi))) h q
theorem i_tup {T : String} {e : Nat} (S : Sep l H) (hi : l[e]? = some (Tp p xs)) (h : kitB "tuple" T = some b) (q : Q (.bl b) H) : gIsi K [.ref p, .ty T] H Q := i_ty (.base (.tup (S.tp hi))) h q
end
local macro_rules | `(tactic| walk_at "kb") => `(tactic| (first | exact k_ii | exact k_ib | exact k_is | exact k_ss | exact k_si | exact k_sb | exact k_bi | exact k_bb | exact k_bs | exact k_ll | exact k_lt | exact k_li | exact k_ls | exact k_tt | exact k_tl | exact k_ti | exact k_ts | exact k_ni | exact k_ns | exact k_nt | exact k_nl | exact k_nb | exact k_it | exact k_il | exact k_st | exact k_sl))
local macro_rules | `(tactic| walk_at "v1") => `(tactic| (first
  | ((with_reducible refine' i_int ?hb ?_); (case hb => walk_at "kb"))
  | ((with_reducible refine' i_str ?hb ?_); (case hb => walk_at "kb"))
  | ((with_reducible refine' i_bl ?hb ?_); (case hb => walk_at "kb"))
  | ((with_reducible refine' i_non ?hb ?_); (case hb => walk_at "kb"))
  | ((with_reducible refine' i_lst (by assumption) ?hi ?hb ?_); (case hi => walk_at "has"); (case hb => walk_at "kb"))
  | ((with_reducible refine' i_tup (by assumption) ?hi ?hb ?_); (case hi => walk_at "has"); (case hb => walk_at "kb"))))

/-! enumerate over a tuple; a def read off a class -/
section
open PyProof.Rows
theorem meets_enum1 {v : Value} {o : Obj} {H : Heap → Prop} (B : Begins v o H) :
    Meets (Builtin.«enumerate.__new__» ⟨[.type "enumerate", v], []⟩) (fun _ R s => H s.heap ∧
      R (.ok (.ret (.ref (s.heap.push o).objs.size))) { s with heap := (s.heap.push o).push { cls := .type "enumerate", data := .fields #[.none, .bool false, .ref s.heap.objs.size, rawInt 0, .none, .none] } }) :=
  .of_wp fun prog w A R s h => by
    obtain ⟨hp, g, d, tk, os⟩ := s; obtain ⟨h1, h⟩ := h
    have hsub := sub_enumerate
    have q1 : ∀ {A' : Around} {E : Value → Shared → Prop} {Q : Value → Shared → Prop}, Q (.ref hp.objs.size) ⟨hp.push o, g, d, tk, os⟩ → wpAny (model prog w) A' (pyIter v) Q E ⟨hp, g, d, tk, os⟩ :=
      fun q => B.iter prog w _ _ ⟨hp, g, d, tk, os⟩ _ h1 q
    wp_walk using q1
    refine wpAny_stack_any fun st => wpAny_pure ?_
    split
    · rename_i c _ _ _ _ _
      cases (c == Value.type "enumerate")
      · wp_walk using q1
        exact ⟨_, rfl, h⟩
      · wp_walk using q1
        exact ⟨_, rfl, h⟩
    · wp_walk using q1
      exact ⟨_, rfl, h⟩
theorem enum_begins1 {prog : Program} {w : World} {A : Around} {E : Value → Shared → Prop} {s : Shared} {v : Value} {o : Obj} {H : Heap → Prop} {Q : Value → Shared → Prop} (B : Begins v o H) (h1 : H s.heap)
    (h : ∀ h', IsEnum h' (s.heap.objs.size + 1) s.heap.objs.size 0 .none → h'.get? s.heap.objs.size = some o → h'.objs.size = s.heap.objs.size + 2 →
      (∀ b o, s.heap.get? b = some o → h'.get? b = some o) → Q (.ref (s.heap.objs.size + 1)) { s with heap := h' }) :
    wpAny (model prog w) A (call (.type "enumerate") [v]) Q E s := by
  refine callType_new F.called_enumerate (by decide) (F.typeCall_enumerate_1 _) (F.newCall_enumerate_1 _) (fun obj => F.args_object_init_2 obj _) F.entry_enumerate_new
    (meets_enum1 B) ⟨h1, ?_⟩
  have hz : (s.heap.push o).objs.size = s.heap.objs.size + 1 := Heap.size_push ..
  show _ ∧ _
  rw [hz]
  have he : IsEnum ((s.heap.push o).push { cls := .type "enumerate", data := .fields #[.none, .bool false, .ref s.heap.objs.size, rawInt 0, .none, .none] }) (s.heap.objs.size + 1) s.heap.objs.size 0 .none := by
    have := Heap.get?_push_size (s.heap.push o) (o := { cls := .type "enumerate", data := .fields #[.none, .bool false, .ref s.heap.objs.size, rawInt 0, .none, .none] }) rfl
    rw [hz] at this; exact this
  refine ⟨⟨_, he, rfl⟩, h _ he (Heap.get?_push_of_some _ (Heap.get?_push_size _ B.free)) (by rw [Heap.size_push, hz]) fun b o x => Heap.get?_push_of_some _ (Heap.get?_push_of_some _ x)⟩
/-- the tuple at a, the items in new pairs with their places -/
def IteT (K : PySem.W.Frag) (a : Addr) : It :=
  ⟨fun i H => ∃ (xs : List V) (x : V), SqT K H a xs ∧ xs[i]? = some x, fun i H v H' => ∃ T x, v = .ref T ∧ H T = none ∧ H' = upd H T (.tup [.int (i : Nat), x]) ∧ ∀ xs, SqT K H a xs → xs[i]? = some x, fun i H => ∃ xs : List V, SqT K H a xs ∧ xs.length ≤ i⟩
theorem turn_enumT {P : Program} {w : World} {K : PySem.W.Frag} {elts : List Expr} {kk : Nat} {tpos : Pos} (a e it : Addr) :
    Turn P w K (.Tuple elts kk tpos) (IteT K a) [e, it] e (fun i h => (∃ old, IsEnum h e it ((i : Nat) : Int) old) ∧ h.IsTupleIter it a i ∧ e ≠ it) where
  mem := by simp
  obj := fun i h st b hb => by
    obtain ⟨⟨old, he⟩, ⟨o, ho, hc, hd⟩, _⟩ := st
    have e' : b = e ∨ b = it := by simpa using hb
    rcases e' with z | z
    · rw [z]; exact ⟨_, he, fun v q => nomatch q⟩
    · rw [z]; exact ⟨o, ho, fun v q => by rw [hd] at q; cases q⟩
  keep := fun i h h' st k => let ⟨⟨old, he⟩, hi, hne⟩ := st; ⟨⟨old, k e (by simp) _ he⟩, hi.at fun o q => k it (by simp) o q, hne⟩
  item := by
    intro X hP hw hK hc i pins s σ H E I hf st hg
    subst hP hw hK
    obtain ⟨⟨old, he⟩, hit, hne⟩ := st
    obtain ⟨xs, x, hq, hx⟩ := hg
    obtain ⟨its, rv, p, hz⟩ := I.tuple hq
    have p' : s.heap.IsTuple a its.toArray := p
    obtain ⟨u, hu, ru⟩ := rv.get hx
    have hel : e < s.heap.objs.size := Heap.lt_size he
    have hil : it < s.heap.objs.size := by obtain ⟨_, q, _⟩ := hit; exact Heap.lt_size q
    have hea : e ≠ a := fun z => by
      obtain ⟨o, ho, hc', _⟩ := id p'
      rw [← z] at ho
      have := he.symm.trans ho
      cases this
      exact absurd (Value.type.inj hc') (by decide)
    have hia : a ≠ it := fun z => by
      obtain ⟨o, ho, hc', _⟩ := id p'
      obtain ⟨o2, ho2, hc2, _⟩ := id hit
      rw [z] at ho
      have q := ho.symm.trans ho2
      cases q
      rw [hc'] at hc2
      exact absurd (Value.type.inj hc2) (by decide)
    have D := Draws.tuple (prog := X.prog) (w := X.w) (A := X.A.in1) (I.ok.hd hc) it a hia its.toArray
    have hil' : i < its.toArray.size := by
      rw [List.size_toArray]
      exact (List.getElem?_eq_some_iff.mp hu).1
    refine wpAny_pyNext_enum_itemD D he ⟨hit, p'⟩ hil' hne (by simp [hne, hea]) fun y h' tk hy ho hst' hT hsz hk => ?_
    obtain rfl : y = u := by
      have e1 : its.toArray[i]? = some u := by simpa using hu
      rw [e1] at hy
      exact (Option.some.inj hy).symm
    refine ⟨_, rfl, wpAny_letOwnedTupleGo_enum (s := { s with heap := h', toks := tk + 1 }) ho fun h'' he' sb => ?_⟩
    have hT2 : h''.get? s.heap.objs.size = some { cls := .type "tuple", data := .seq #[.int i tk, y] } := (sb.2 _ (Nat.ne_of_gt hel)).trans hT
    have new : ObjOk X.prog X.w (upd H s.heap.objs.size (.tup [.int (i : Nat), x])) h'' s.heap.objs.size (.tup [.int (i : Nat), x]) :=
      ⟨by show 2 ≤ sizeLine; decide, [.int i tk, y], .cons ⟨_, rfl⟩ (.cons ru .nil), ⟨_, hT2, rfl, _, rfl⟩⟩
    have I1 : Inv X pins σ (upd H s.heap.objs.size (.tup [.int (i : Nat), x])) { s with heap := h'', toks := tk + 1 } :=
      I.turnedNew (ch := [e, it]) (fun b ob hb q => (sb.2 b (fun z => hb (by simp [z]))).trans (hk b ob (fun z => hb (by simp [z])) (fun z => hb (by simp [z])) q)) hf (Nat.le_refl _) new
    refine ⟨.ref s.heap.objs.size, _, I1, rfl, ⟨_, x, rfl, I.hok.fresh (Nat.le_refl _), rfl, fun ys hy => by rw [I.tuple_inj hy hq]; exact hx⟩, ⟨⟨y, ?_⟩, hst'.1.at fun o q => (sb.2 it (Ne.symm hne)).trans q, hne⟩, fun b hb => ?_⟩
    · have e1 : ((i + 1 : Nat) : Int) = (i : Int) + 1 := by omega
      rw [e1]; exact he'
    · have hb' : b < s.heap.objs.size := by
        have e' : b = e ∨ b = it := by simpa using hb
        rcases e' with z | z
        · rw [z]; exact hel
        · rw [z]; exact hil
      rw [upd_ne (Nat.ne_of_lt hb')]
      exact (hf b hb).1
  done := by
    intro X hP hw hK hc i pins s σ H E I hf st hg
    subst hP hw hK
    obtain ⟨⟨old, he⟩, hit, hne⟩ := st
    obtain ⟨xs, hq, hx⟩ := hg
    obtain ⟨its, rv, p, hz⟩ := I.tuple hq
    have p' : s.heap.IsTuple a its.toArray := p
    have hl := rv.length
    have hia : a ≠ it := fun z => by
      obtain ⟨o, ho, hc', _⟩ := id p'
      obtain ⟨o2, ho2, hc2, _⟩ := id hit
      rw [z] at ho
      have q := ho.symm.trans ho2
      cases q
      rw [hc'] at hc2
      exact absurd (Value.type.inj hc2) (by decide)
    obtain ⟨f0, f1, f2, f3, f4, f5⟩ := hf it (by simp)
    have hT : s.TypeIs (.ref e) "enumerate" := ⟨_, he, rfl⟩
    unfold pyNext
    refine wpAny_bind (wpAny_attempt (wpAny_callSpecial?_slot (name := Str.ofString "__next__") hT F.slot_enumerate_next
      (wpAny_call_entry F.slot_enumerate_next hT F.entry_enumerate_next ?_ (F.args_enumerate_next_1 _))))
    show wpAny _ _ (field (.ref e) 2 >>= _) _ _ _
    refine wpAny_bind (wpAny_field he rfl (x := .ref it) rfl ?_)
    refine wpAny_bind (wpAny_nextOf_tuple_end (I.ok.hd hc) hit p' (by simp; omega) fun h' x he' hx' => ?_)
    obtain ⟨o, ho, hc2⟩ := hx'
    refine wpAny_bind (wpAny_isInstance (T := "StopIteration") (b := true) ⟨o, ho, hc2⟩ isSubtype_stop ?_)
    exact wpAny_pure ⟨rfl, I.turned (t' := s.toks) (fun b o hb q => he' b o hb q) f0 f1 f3 f4 f5⟩
  self := fun A i s Q E st h => let ⟨⟨_, he⟩, _⟩ := st; wpAny_pyIter_enum he h
def iEnumT (K : PySem.W.Frag) (ta : TA) : TI := fun σ H R => ta σ H fun vs H1 => ∃ a xs, vs = [.ref a] ∧ SqT K H1 a xs ∧ R (IteT K a) H1
theorem pi_enumT {X : Cx} {K : PySem.W.Frag} (hK : X.K = K) {e : Expr} {ta : TA} {p pos tpos : Pos} {elts : List Expr} {kk : Nat} (hg : Gl X "enumerate") (hm : X.mg "enumerate" = none) (ha : PA X [e] ta) (hs : starEach [e] X.env = [(false, eval e X.env)] := by rfl) :
    PI X (.Tuple elts kk tpos) (.Call (.Name "enumerate" p) [e] [] pos) (iEnumT K ta) := by
  subst hK
  refine ⟨fun pins s σ H R I h => ?_⟩
  refine Call_ (ld_blt I hg hm boot_enumerate (PyProof.Rows.callWith_type1 (thn (ha.run pos pins s σ H _ I h) fun us s1 ⟨vs, H1, I1, r1, q1⟩ => ?_) hs rfl))
  obtain ⟨a, xs, ex, hq, q⟩ := q1
  subst ex
  cases r1 with
  | cons r rr =>
    cases rr
    cases r
    obtain ⟨its, rv, p', hz⟩ := I1.tuple hq
    refine enum_begins1 (begins_tuple a its.toArray) p' fun h' he hit hsz hk => wpAny_pyIter_enum he ?_
    have I2 : Inv X pins σ H1 { s1 with heap := h' } := I1.kept (t' := s1.toks) hk
    refine ⟨s1.heap.objs.size + 1, [s1.heap.objs.size + 1, s1.heap.objs.size], _, _, H1, rfl, I2, turn_enumT a (s1.heap.objs.size + 1) s1.heap.objs.size, ⟨⟨.none, he⟩, ⟨_, hit, rfl, rfl⟩, Nat.succ_ne_self _⟩, fun b hb => ?_, q⟩
    have e' : b = s1.heap.objs.size + 1 ∨ b = s1.heap.objs.size := by simpa using hb
    have hle : s1.heap.objs.size ≤ b := by
      rcases e' with z | z
      · rw [z]; exact Nat.le_add_right _ _
      · rw [z]; exact Nat.le_refl _
    exact I1.fpOk hle (I1.hok.fresh hle)
/-! C.m(e, ..), m a def of C's body -/
def tUnb (C : Addr) (sp : Sp) (E : XK) (ta : TE) (t : TA) : TE := fun σ H Q => ta σ H fun x H1 => x = .ref C ∧ t σ H1 fun vs H2 => sp vs H2 Q E
theorem pe_unb {X : Cx} {CX : CXT} {k : Nat} {C f : Addr} {mc : Value} {sp : Sp} {E : XK} {o e : Expr} {es : List Expr} {m : Str} {pos apos : Pos} {ta : TE} {t : TA} {pl : Sem Bool}
    (he : PE X o ta) (r : ClX.CRead X.K C mc) (at_ : PySem.W.findCls X.K (.ref C) mc m = some (.val (.ref f))) (kp : PySem.W.keepIn X.K (.ref f) = true) (F : FnR X.prog X.w X.K X.mg X.base CX k f sp) (hr : Room k X.A) (hx : Passes CX X E) (ha : PA X (e :: es) t)
    (hst : starEach (e :: es) X.env = (false, eval e X.env) :: starEach es X.env := by rfl) (hpl : (backTo pos (starEach es X.env)).any (·.1) = false := by rfl)
    (ht : eval (.Call (.Attribute o m apos) (e :: es) [] pos) X.env = (do
      let ov ← eval o X.env
      standAt apos.atName
      let (f, first) ← holding [ov] (getMethod ov m pl)
      callWith pos f first (backTo pos (starEach (e :: es) X.env)) (backToKw pos (keywordEach [] X.env))) := by rfl) :
    PE X (.Call (.Attribute o m apos) (e :: es) [] pos) (tUnb C sp E ta t) := by
  refine ⟨fun pins s σ H Q I h => ?_⟩
  refine PySem.W.methodCall_KW (pl := pl) (thn (he.run pins s σ H _ I h) fun u s1 ⟨x, H1, I1, rx, ex, q⟩ => ?_) ht
  subst ex
  obtain rfl : u = Value.ref C := rx
  refine PySem.W.method_cls I1.kIn r.ga ?_
  refine PySem.W.cls_value I1.kIn r.rd at_ (handed_of (v := .ref f) rfl) ?_
  refine PySem.W.callWith_K (h₀ := X.base) I1.ok.mod.kin kp (thn (ha.run pos pins _ σ H1 _ (I1.tok _) q) fun us s3 ⟨vs, H2, I3, rv, q2⟩ => ⟨I3.kIn, ?_⟩) hst hpl
  exact wpAny_call (run_fnR F hr hx I3 rv q2)

end
/-! instances -/
section
open PyProof.Rows
/-- an instance of the class at C -/
def Ob (p C : Addr) (fs : List (Str × V)) : Asn := Exs fun dx : Addr => Pk [At p (.ins C dx fs), At dx (.own p)]
structure Kl (K : PySem.W.Frag) (C : Addr) (ns : List Str) : Prop where
  c : Cls K C
  n : ∀ f ∈ ns, NoAttr K C f
/-- what isinstance asks of a class -/
structure Ki (K : PySem.W.Frag) (C : Addr) : Prop where
  ha : PySem.W.findIn K (.ref C) "__class__" = some (some (.builtin "object.__class__"))
  hn : PySem.W.specialIn K (.builtin "object.__class__") "__get__" = some (some (.builtin "getset_descriptor.__get__"))
  ht : PySem.W.takesIn K (.builtin "object.__class__") = some true
  hm : PySem.W.mroIn K C (.type "object") = some true
theorem lk0 {f : Str} {v : V} {r : List (Str × V)} : List.lookup f ((f, v) :: r) = some v := by
  show (match f == f with | true => some v | false => _) = _
  rw [beq_self_eq_true]
theorem lkS {f g : Str} {v x : V} {r : List (Str × V)} (h : (f == g) = false) (q : List.lookup f r = some v) : List.lookup f ((g, x) :: r) = some v := by
  show (match f == g with | true => some x | false => List.lookup f r) = _
  rw [h]; exact q
theorem putF0 {f : Str} {v : V} : putF f v [] = [(f, v)] := rfl
theorem putFS {f g : Str} {v x : V} {r : List (Str × V)} (h : ¬ g = f) : putF f v ((g, x) :: r) = (g, x) :: putF f v r := by
  show (if g = f then _ else _) = _
  rw [if_neg h]
theorem putFT {f g : Str} {v x : V} {r r2 : List (Str × V)} (h : ¬ g = f) (q : putF f v r = r2) : putF f v ((g, x) :: r) = (g, x) :: r2 := by rw [putFS h, q]
theorem putFE {f : Str} {v x : V} {r : List (Str × V)} : putF f v ((f, x) :: r) = (f, v) :: r := by
  show (if f = f then _ else _) = _
  rw [if_pos rfl]
section
variable {l : List Asn} {H : Hp} {p C dx : Addr} {fs : List (Str × V)} {f : Str} {v y : V} {Q : VK} {K : PySem.W.Frag} {ns : List Str} {e : Nat} {σ : L2.St}
theorem ob_open (S : Sep (Ob p C fs :: l) H) : ∃ dx, Sep (At p (.ins C dx fs) :: At dx (.own p) :: l) H := by
  obtain ⟨dx, S⟩ := S.ex
  exact ⟨dx, S.open'⟩
theorem ob_close (S : Sep (At p (.ins C dx fs) :: At dx (.own p) :: l) H) : Sep (Ob p C fs :: l) H := Sep.ex' (x := dx) (Sep.close' (l := [_, _]) S)
theorem ob_at (S : Sep l H) (hi : l[e]? = some (Ob p C fs)) : ∃ dx, H p = some (.ins C dx fs) := by
  obtain ⟨dx, S'⟩ := ob_open (S.pick hi)
  exact ⟨dx, S'.at (i := 0) rfl⟩
/-- an attribute is read -/
def gFldR (K : PySem.W.Frag) (f : Str) (x : V) (H : Hp) (Q : VK) : Prop := ∃ a C dx fs v, x = .ref a ∧ H a = some (.ins C dx fs) ∧ Cls K C ∧ NoAttr K C f ∧ fs.lookup f = some v ∧ Q v H
/-- an attribute is stored -/
def gFldW (K : PySem.W.Frag) (f : Str) (x y : V) (H : Hp) (R : Hp → Prop) : Prop := ∃ a C dx fs, x = .ref a ∧ H a = some (.ins C dx fs) ∧ Cls K C ∧ NoAttr K C f ∧ fs.length < 1000 ∧ R (upd H a (.ins C dx (putF f y fs)))
theorem f_get (S : Sep l H) (hi : l[e]? = some (Ob p C fs)) (hC : Kl K C ns) (hf : f ∈ ns) (hl : fs.lookup f = some v) (q : Q v H) :
    gFldR K f (.ref p) H Q := by
  obtain ⟨dx, h⟩ := ob_at S hi
  exact ⟨p, C, dx, fs, v, rfl, h, hC.c, hC.n f hf, hl, q⟩
theorem f_put {R : Hp → Prop} (S : Sep l H) (hi : l[e]? = some (Ob p C fs)) (hC : Kl K C ns) (hf : f ∈ ns) (hz : fs.length < 1000) {fs2 : List (Str × V)} (he : putF f y fs = fs2) (k : ∀ H', Sep (l.set e (Ob p C fs2)) H' → R H') :
    gFldW K f (.ref p) y H R := by
  obtain ⟨dx, S1⟩ := ob_open (S.pick hi)
  have h := S1.at (i := 0) rfl
  have S2 := S1.upd0 (o' := .ins C dx fs2) (fun _ z => nomatch z)
  rw [he.symm] at S2 k
  exact ⟨p, C, dx, fs, rfl, h, hC.c, hC.n f hf, hz, k _ (Sep.back hi (ob_close S2))⟩
theorem n_make {P : Addr → Hp → Prop} (S : Sep l H) (k : ∀ x H', Sep (Ob x C [] :: l) H' → P x H') : ∀ x dx, H x = none → H dx = none → dx ≠ x → P x (upd (upd H dx (.own x)) x (.ins C dx [])) := by
  intro x dx hx hdx hne
  refine k x _ (ob_close (dx := dx) ?_)
  have S1 := S.new (o := .own x) hdx
  have hx' : (upd H dx (.own x)) x = none := by rw [upd_ne (Ne.symm hne)]; exact hx
  exact S1.new hx'
theorem r_fldS {ta tv : TE} {nx bk ct : L2.St → Hp → Prop} {rt : VK} (q : tv σ H fun y H1 => ta σ H1 fun x H2 => gFldW K f x y H2 fun H3 => nx σ H3) :
    sFld K ta tv f ⟨nx, rt, bk, ct⟩ σ H := q
theorem r_fld {ta : TE} (q : ta σ H fun x H1 => gFldR K f x H1 Q) : tFld K ta f σ H Q := q
theorem ps_gFld {X : Cx} (hK : X.K = K) {o value : Expr} {pos' pos : Pos} {ta tv : TE} (ha : PE X o ta) (hv : PE X value tv) (hs : swapsWith value (some (.Attribute o f pos')) pos.line X.env = pure false) : PS X (.Assign [.Attribute o f pos'] value pos) (sFld K ta tv f) := by
  rw [← hK]; exact ps_fld ha hv hs
theorem r_make {sp : Sp} {E : XK} {t : TA} (q : t σ H fun vs H1 => ∀ x dx, H1 x = Option.none → H1 dx = Option.none → dx ≠ x → sp (V.ref x :: vs) (upd (upd H1 dx (.own x)) x (.ins C dx [])) (fun v H2 => v = .non ∧ Q (.ref x) H2) E) : StX.tMakeR C sp E t σ H Q := q
theorem r_unb {sp : Sp} {E : XK} {ta : TE} {t : TA} (q : ta σ H fun x H1 => x = .ref C ∧ t σ H1 fun vs H2 => sp vs H2 Q E) : tUnb C sp E ta t σ H Q := q
/-- isinstance(x, C), x an instance -/
theorem i_ob {D : Addr} {b : Bool} (S : Sep l H) (hi : l[e]? = some (Ob p C fs)) (hC : Kl K C ns) (ki : Ki K C) (hk : PySem.W.kitOne K (.ref C) (.ref D) = some b) (q : Q (.bl b) H) : gIsi K [.ref p, .ref D] H Q := by
  obtain ⟨dx, h⟩ := ob_at S hi
  exact i_one (.own D) (.base (.ins h hC.c ki.ha ki.hn ki.ht ki.hm)) hk q
theorem i_obT {T : String} {b : Bool} (S : Sep l H) (hi : l[e]? = some (Ob p C fs)) (hC : Kl K C ns) (ki : Ki K C) (hk : PySem.W.kitOne K (.ref C) (.type T) = some b) (q : Q (.bl b) H) : gIsi K [.ref p, .ty T] H Q := by
  obtain ⟨dx, h⟩ := ob_at S hi
  exact i_one (.ty T) (.base (.ins h hC.c ki.ha ki.hn ki.ht ki.hm)) hk q
end
end
local macro_rules | `(tactic| walk_at "lk") => `(tactic| (first | exact lk0 | exact lkS (by decide +kernel) lk0 | exact lkS (by decide +kernel) (lkS (by decide +kernel) lk0) | exact lkS (by decide +kernel) (lkS (by decide +kernel) (lkS (by decide +kernel) lk0)) | exact lkS (by decide +kernel) (lkS (by decide +kernel) (lkS (by decide +kernel) (lkS (by decide +kernel) lk0)))))
local macro_rules | `(tactic| walk_at "putF") => `(tactic| (first | exact putF0 | exact putFE | exact putFT (by decide +kernel) putF0 | exact putFT (by decide +kernel) putFE | exact putFT (by decide +kernel) (putFT (by decide +kernel) putF0) | exact putFT (by decide +kernel) (putFT (by decide +kernel) putFE) | exact putFT (by decide +kernel) (putFT (by decide +kernel) (putFT (by decide +kernel) putF0))))
local macro_rules | `(tactic| walk_at "v1") => `(tactic| (first
  | with_reducible refine r_fld ?_
  | with_reducible refine r_fldS ?_
  | with_reducible refine r_make ?_
  | with_reducible refine r_unb ?_
  | ((with_reducible refine' f_get (by assumption) ?hi ?hC ?hf ?hl ?_); (case hi => walk_at "has"); (case hC => assumption); (case hf => decide +kernel); (case hl => walk_at "lk"))
  | ((with_reducible refine' f_put (by assumption) ?hi ?hC ?hf ?hz ?he ?_); (case hi => walk_at "has"); (case hC => assumption); (case hf => decide +kernel); (case hz => (simp only [List.length_cons, List.length_nil]; decide)); (case he => walk_at "putF"); intro _ S; simp only [List.set] at S)))

/-! kinds -/
def abcS : Str := "abcdefghijklmnopqrstuvwxyz"
def sg (j : Nat) : Str := ⟨#[97 + j]⟩
def barredL : List Str := ["hold", "look", "do", "row", "one", "all", "new", "give", "take", "join", "other", "if", "and", "or", "then", "gone"]
def wordsL : List Str := ["self", "at", "to", "exactly", "least", "most", "from", "rule", "door", "limit", "begin", "store", "loose"]
theorem wordsL_wd : ∀ w ∈ wordsL, Wd w := by decide +kernel
def Kd (w : Str) : Prop := Wd w ∧ w ∉ barredL
instance (w : Str) : Decidable (Kd w) := by unfold Kd; infer_instance
theorem abc_at : ∀ j, j < 26 → abc[j]? = some (97 + j) := by decide +kernel
theorem abc_mem {c : Nat} : c ∈ abc ↔ 97 ≤ c ∧ c < 123 := by
  constructor
  · intro h
    have : ∀ c ∈ abc, 97 ≤ c ∧ c < 123 := by decide +kernel
    exact this c h
  · intro h
    have e := abc_at (c - 97) (by omega)
    have e2 : 97 + (c - 97) = c := by omega
    rw [e2] at e
    exact List.mem_of_getElem? e
theorem abc_index : ∀ j, j < 26 → Builtin.Str.occurrences abcS (sg j) 0 26 1 = [j] := by decide +kernel
theorem abcS_at {n : Int} {m : Nat} (e : n = (m : Int)) (hm : m < 26) : atI abcS.cps.toList n = some (97 + m) := by
  subst e
  have hl : abcS.cps.toList.length = 26 := by decide +kernel
  unfold atI ixN
  rw [if_pos (by omega), if_pos (by omega)]
  exact abc_at m hm
theorem str_inj {a b : Str} (h : a.cps.toList = b.cps.toList) : a = b := by
  cases a; cases b
  congr 1
  exact Array.toList_inj.1 h
/-- a word by its last sign -/
theorem word_split {w : Str} (h : Wd w) : ∃ (p : Str) (j : Nat), w = p ++ sg j ∧ j < 26 ∧ p.length ≤ 7 ∧ ∀ c ∈ p.cps.toList, c ∈ abc := by
  obtain ⟨h1, h2, h3⟩ := h
  have hl : w.cps.toList.length = w.length := by simp [Str.length]
  have hne : w.cps.toList ≠ [] := fun z => by rw [z] at hl; simp at hl; omega
  obtain ⟨j0, hj⟩ : ∃ c, c = w.cps.toList.getLast hne := ⟨_, rfl⟩
  have hm : j0 ∈ abc := by rw [hj]; exact h3 _ (List.getLast_mem hne)
  have hb := abc_mem.1 hm
  refine ⟨⟨w.cps.toList.dropLast.toArray⟩, j0 - 97, str_inj ?_, by omega, ?_, fun c hc => ?_⟩
  · rw [str_app]
    show w.cps.toList = w.cps.toList.dropLast.toArray.toList ++ [97 + (j0 - 97)]
    have e : 97 + (j0 - 97) = j0 := by omega
    rw [e, hj]
    exact (List.dropLast_concat_getLast hne).symm
  · show w.cps.toList.dropLast.toArray.size ≤ 7
    simp only [List.size_toArray, List.length_dropLast]
    omega
  · have hc' : c ∈ w.cps.toList.dropLast := by simpa using hc
    exact h3 c (List.dropLast_subset _ hc')
theorem word_join {p : Str} {j : Nat} (hj : j < 26) (hp : p.length ≤ 7) (hc : ∀ c ∈ p.cps.toList, c ∈ abc) : Wd (p ++ sg j) := by
  refine ⟨?_, ?_, fun c h => ?_⟩
  · rw [str_len_app]; show 1 ≤ p.length + 1; omega
  · rw [str_len_app]; show p.length + 1 ≤ 8; omega
  · rw [str_app] at h
    rcases List.mem_append.1 h with h | h
    · exact hc c h
    · have e : c = 97 + j := List.mem_singleton.1 h
      rw [abc_mem]; omega
theorem last_at {p : Str} {j : Nat} : atI (p ++ sg j).cps.toList (-1) = some (97 + j) := by
  rw [str_app]
  show atI (p.cps.toList ++ [97 + j]) (-1) = _
  unfold atI ixN
  rw [if_neg (by decide), if_pos (by simp; omega)]
  simp only [Option.bind_some, List.length_append, List.length_singleton]
  have e : ((-1 : Int) + ((p.cps.toList.length + 1 : Nat) : Int)).toNat = p.cps.toList.length := by omega
  rw [e, List.getElem?_append_right (Nat.le_refl _)]
  simp
theorem sIx_m1 (n : Nat) : HT.sIx (n + 1) (n + 1) (some (-1)) = n := by
  unfold HT.sIx
  simp
  omega
theorem cut_last {p : Str} {j : Nat} : cutS (p ++ sg j) none (some (-1)) = p := by
  apply str_inj
  unfold cutS
  have hl : (p ++ sg j).length = p.cps.toList.length + 1 := by rw [str_len_app]; simp [Str.length]; rfl
  rw [hl, sIx_m1, HT.sIx_none, str_app]
  simp
theorem pre_inj {p : Str} {a b : Nat} (h : p ++ sg a = p ++ sg b) : a = b := by
  have e := congrArg (fun x : Str => x.cps.toList) h
  simp only [str_app] at e
  have e2 := List.append_cancel_left e
  have e3 : 97 + a = 97 + b := by
    have := List.cons.inj e2
    exact this.1
  omega
theorem nodup_le {α : Type} [DecidableEq α] : ∀ {l m : List α}, l.Nodup → (∀ x ∈ l, x ∈ m) → l.length ≤ m.length
  | [], m, _, _ => Nat.zero_le _
  | x :: l, m, hn, hs => by
    have hx := hs x List.mem_cons_self
    have hn' := List.nodup_cons.1 hn
    have ih := nodup_le (l := l) (m := m.erase x) hn'.2 fun y hy => by
      have hne : y ≠ x := fun z => hn'.1 (z ▸ hy)
      exact (List.mem_erase_of_ne hne).2 (hs y (List.mem_cons_of_mem _ hy))
    rw [List.length_erase_of_mem hx] at ih
    have : 0 < m.length := List.length_pos_of_mem hx
    show l.length + 1 ≤ m.length
    omega
/-- among 26 last signs one is free -/
theorem free_one {p : Str} {j0 : Nat} {m : List Str} (hm : m.length ≤ 25) (h : ∀ k, k < 26 → p ++ sg ((j0 + k) % 26) ∈ m) : False := by
  have hn : ((List.range 26).map fun k => p ++ sg ((j0 + k) % 26)).Nodup := by
    show List.Pairwise _ _
    rw [List.pairwise_map]
    refine List.Pairwise.imp_of_mem (R := fun a b => a ≠ b) (fun {a b} ha hb hab z => ?_) (List.nodup_range (n := 26))
    have e := pre_inj z
    have ha' := List.mem_range.1 ha
    have hb' := List.mem_range.1 hb
    omega
  have := nodup_le hn (m := m) fun x hx => by
    obtain ⟨k, hk, rfl⟩ := List.mem_map.1 hx
    exact h k (List.mem_range.1 hk)
  simp at this
  omega
theorem Sep.fr1' {A B : Asn} {l : List Asn} {H : Hp} {j : Nat} (e : l[j]? = some B) (S : Sep (A :: l) H) : Sep (A :: B :: l.eraseIdx j) H := (S.pick (i := j + 1) e).bk1
theorem Sep.bk1' {A B : Asn} {l : List Asn} {H : Hp} {j : Nat} (e : l[j]? = some B) (S : Sep (A :: B :: l.eraseIdx j) H) : Sep (A :: l) H := Sep.backS (l := A :: l) (i := j + 1) e S.fr1
section
variable {l : List Asn} {H : Hp} {p : Addr} {K : PySem.W.Frag} {Q : VK} {e : Nat} {xs : List V} {ws : List Str} {w : Str}
theorem flat_strs : ∀ ws : List Str, (ws.map V.str).all flatV = true
  | [] => rfl
  | _ :: ws => flat_strs ws
theorem eqV_str {a b : Str} : eqV (.str a) (.str b) = decide (a = b) := by
  show (a == b) = _
  by_cases h : a = b
  · rw [decide_eq_true h, h]; exact beq_self_eq_true b
  · rw [decide_eq_false h]; exact beq_eq_false_iff_ne.2 h
theorem inV_strs {w : Str} : ∀ ws : List Str, inV (.str w) (ws.map V.str) = decide (w ∈ ws)
  | [] => rfl
  | a :: ws => by
    show (eqV (.str a) (.str w) || inV (.str w) (ws.map V.str)) = _
    rw [inV_strs ws, eqV_str]
    by_cases h : a = w
    · simp [h]
    · have h' : ¬ w = a := fun z => h z.symm
      simp [h, h']
theorem in_strs (S : Sep l H) (hi : l[e]? = some (At p (.lst (ws.map V.str)))) (q : Q (.bl (decide (w ∈ ws))) H) : gIn K false (.str w) (.ref p) H Q :=
  .inl ⟨p, _, rfl, .inl (SqL.of (S.at hi)), rfl, flat_strs ws, by
    show Q (.bl (inV (.str w) (ws.map V.str))) H
    rw [inV_strs]; exact q⟩
theorem nin_strs (S : Sep l H) (hi : l[e]? = some (At p (.lst (ws.map V.str)))) (q : Q (.bl (!decide (w ∈ ws))) H) : gIn K true (.str w) (.ref p) H Q :=
  .inl ⟨p, _, rfl, .inl (SqL.of (S.at hi)), rfl, flat_strs ws, by
    show Q (.bl (!inV (.str w) (ws.map V.str))) H
    rw [inV_strs]; exact q⟩
theorem in_tups (h : SqT K H p (ws.map V.str)) (q : Q (.bl (decide (w ∈ ws))) H) : gIn K false (.str w) (.ref p) H Q :=
  .inl ⟨p, _, rfl, .inr h, rfl, flat_strs ws, by
    show Q (.bl (inV (.str w) (ws.map V.str))) H
    rw [inV_strs]; exact q⟩
theorem nin_tups (h : SqT K H p (ws.map V.str)) (q : Q (.bl (!decide (w ∈ ws))) H) : gIn K true (.str w) (.ref p) H Q :=
  .inl ⟨p, _, rfl, .inr h, rfl, flat_strs ws, by
    show Q (.bl (!inV (.str w) (ws.map V.str))) H
    rw [inV_strs]; exact q⟩
theorem m_tyS {R : Prop} (q : R) : tyV K "str" (.str w) H ∧ R := ⟨rfl, q⟩
def gSIndex : V → List V → Hp → VK → Prop := fun x xs H Q => ∃ a b i rest, x = .str a ∧ xs = [.str b] ∧ Builtin.Str.occurrences a b 0 a.length 1 = i :: rest ∧ Q (.int (i : Nat)) H
theorem mt_gSIndex {X : Cx} : MtR X "str.index" gSIndex := mt_sindex
theorem m_sindex {j : Nat} (hj : j < 26) (q : Q (.int (j : Nat)) H) : gSIndex (.str abcS) [.str (sg j)] H Q := ⟨abcS, sg j, j, [], rfl, rfl, abc_index j hj, q⟩
end

/-! constants, stars, tuples, all and any -/
section
open PyProof.Rows
theorem pe_globE {X : Cx} {x : Str} {v : V} {pos : Pos} (hg : Gl X x) (h : ∃ u, X.mg x = some u ∧ RelV v u) (hd : (x == ("__debug__" : Str)) = false := by decide) : PE X (.Name x pos) (tC v) :=
  h.elim fun _ h => pe_glob hg h.1 h.2 hd
/-- the promise of a def whose last parameter takes what is left over -/
def stSp (n : Nat) (sp : Sp) : Sp := fun vs H Q E => ∃ ws rest, vs = ws ++ rest ∧ ws.length = n ∧ rest.length ≤ sizeLine ∧ ∀ p, H p = Option.none → sp (ws ++ [V.ref p]) (upd H p (.tup rest)) Q E
theorem fun_star {P : Program} {w : World} {K : PySem.W.Frag} {mg : Str → Option Value} {base : Heap} {x qual : Str} {st : Stmt} {f : Addr} {fd : FuncData} {N ps : List Str} {pv : Str} {k : Nat} {sp : Sp} (F : Fun K x qual st f fd) (S : FnScope N (ps ++ [pv]) (defScope st))
    (hb : ∀ (kV doc pm : Value) (an : Option Addr) (cdv ct : Value) (us rest : List Value), us.length = ps.length → bindArgs (PySem.W.fnOf x qual (defArgs st) (defBody st) (defScope st) .none kV doc pm an cdv ct) ⟨us ++ rest, []⟩ = (newTuple rest >>= fun t => pure (ps.zip us ++ [(pv, t)])))
    (hbody : ∀ (cdv : Value) (A : Around) (outer : List Env) (s : Shared) (H : Hp) (vs : List V) (Q : VK) (E : XK), Room k (A.deeper (envOfC qual (defScope st) s.heap.objs.size f cdv)) → sp vs H Q E →
      ∃ t, PSs (cxOf CX0 P w K mg base N qual (defScope st) f cdv A outer s H E).nox (defBody st) t ∧ t { nx := fun _ H' => Q .non H', rt := Q } (start N vs) H) : FnR P w K mg base CX0 (k + 1) f (stSp ps.length sp) := by
  obtain ⟨oc, od, kV, doc, pm, an, cdv, ct, osl, rfl, lk, hcd⟩ := F.ex
  refine StX.fn_star lk hcd S StX.cxUp_none (hb kV doc pm an cdv ct) fun A outer s H vs Q E hr hsp => ?_
  obtain ⟨t, h, q⟩ := hbody cdv A outer s H vs Q E hr hsp
  exact ⟨t, h.nox, q⟩
theorem raw0 {P : Program} {w : World} {K : PySem.W.Frag} {mg : Str → Option Value} {base : Heap} {CX : CXT} {k : Nat} {f : Addr} {fd : FuncData} {ps : List Str} {sp : Sp} (F : FnOk P w K mg base CX k f fd ps sp) (hb : Binds K fd ps []) : FnR P w K mg base CX k f sp :=
  (F.raw hb .nil).imp fun vs H Q E h => by rw [List.append_nil]; exact h
theorem StX.bind_star3 {B : List Value → Sem (List (Str × Value))} {p1 p2 p3 pv : Str} (h0 : ∀ a b c, B [a, b, c] = (newTuple [] >>= fun t => pure [(p1, a), (p2, b), (p3, c), (pv, t)])) (h1 : ∀ a b c r rs, B (a :: b :: c :: r :: rs) = (newTuple (r :: rs) >>= fun t => pure [(p1, a), (p2, b), (p3, c), (pv, t)])) :
    ∀ us rest : List Value, us.length = [p1, p2, p3].length → B (us ++ rest) = (newTuple rest >>= fun t => pure ([p1, p2, p3].zip us ++ [(pv, t)]))
  | [a, b, c], [], _ => h0 a b c
  | [a, b, c], r :: rs, _ => h1 a b c r rs
section
variable {l : List Asn} {H : Hp} {p : Addr} {K : PySem.W.Frag} {Q : VK} {e : Nat} {xs : List V} {E : XK} {σ : L2.St} {g : TG} {tb : TS} {nx bk ct : L2.St → Hp → Prop} {rt : VK} {te : TE} {tA : TA}
/-- a call with something left over -/
theorem st_call {ws rest : List V} {sp : Sp} (S : Sep l H) (hz : rest.length ≤ 1000) (k : ∀ t H', Sep (Tp t rest :: l) H' → sp (ws ++ [V.ref t]) H' Q E) : stSp ws.length sp (ws ++ rest) H Q E :=
  ⟨ws, rest, rfl, rfl, Nat.le_trans hz (by decide), fun t ht => k t _ (S.newT ht)⟩
theorem sl_gTup {X : Cx} (hK : X.K = K) : SlR X (rSlT K) := by rw [← hK]; exact sl_tup
theorem s_tup {lo hi : Option Int} (S : Sep l H) (he : l[e]? = some (Tp p xs)) (hw : ¬ (HT.sIx xs.length 0 lo = 0 ∧ HT.sIx xs.length xs.length hi = xs.length)) (k : ∀ d H', Sep (Tp d (cutV xs lo hi) :: l) H' → Q (.ref d) H') : rSlT K (.ref p) lo hi H Q :=
  ⟨p, xs, rfl, SqT.of (S.tp he), hw, fun d hd => k d _ (S.newT hd)⟩
def gTuple (K : PySem.W.Frag) : List V → Hp → VK → Prop := fun xs H Q => ∃ p ys, xs = [.ref p] ∧ ((SqL K H p ys ∧ ∀ l, H l = none → Q (.ref l) (upd H l (.tup ys))) ∨ (SqT K H p ys ∧ Q (.ref p) H))
theorem call_gTuple {X : Cx} (hK : X.K = K) : CallR X (.type "tuple") (gTuple K) := by rw [← hK]; exact call_tuple_of
theorem c_tupT (S : Sep l H) (hi : l[e]? = some (Tp p xs)) (q : Q (.ref p) H) : gTuple K [.ref p] H Q := ⟨p, xs, rfl, .inr ⟨SqT.of (S.tp hi), q⟩⟩
theorem c_tupL (S : Sep l H) (hi : l[e]? = some (At p (.lst xs))) (k : ∀ d H', Sep (Tp d xs :: l) H' → Q (.ref d) H') : gTuple K [.ref p] H Q := ⟨p, xs, rfl, .inl ⟨SqL.of (S.at hi), fun d hd => k d _ (S.newT hd)⟩⟩
def gAll (K : PySem.W.Frag) : List V → Hp → VK → Prop := rAll K
def gAny (K : PySem.W.Frag) : List V → Hp → VK → Prop := rAny K
theorem call_gAll {X : Cx} (hK : X.K = K) (hc : X.calm = true) : CallR X (.builtin "all") (gAll K) := by rw [← hK]; exact cr_all hc
theorem call_gAny {X : Cx} (hK : X.K = K) (hc : X.calm = true) : CallR X (.builtin "any") (gAny K) := by rw [← hK]; exact cr_any hc
theorem c_all {bs : List Bool} (S : Sep l H) (hi : l[e]? = some (At p (.lst (bs.map V.bl)))) (q : Q (.bl (bs.all id)) H) : gAll K [.ref p] H Q := ⟨p, bs, rfl, SqL.of (S.at hi), q⟩
theorem c_any {bs : List Bool} (S : Sep l H) (hi : l[e]? = some (At p (.lst (bs.map V.bl)))) (q : Q (.bl (bs.any id)) H) : gAny K [.ref p] H Q := ⟨p, bs, rfl, SqL.of (S.at hi), q⟩
theorem in_sign {c : Nat} {z : Str} (q : Q (.bl (decide (c ∈ z.cps.toList))) H) : gIn K false (.str ⟨#[c]⟩) (.str z) H Q := .inr ⟨c, z, rfl, rfl, q⟩
/-- for x in t, t a tuple -/
theorem forT (S : Sep l H) (hi : l[e]? = some (Tp p xs)) (Pv : Nat → L2.St → Hp → Prop) (h0 : Pv 0 σ H) (hl : ∀ i σ H, Pv i σ H → H p = some (.tup xs))
    (hs : ∀ i x σ H, xs[i]? = some x → Pv i σ H → g x σ H fun σ2 H2 => tb ⟨Pv (i + 1), rt, nx, Pv (i + 1)⟩ σ2 H2) (hd : ∀ σ H, Pv xs.length σ H → nx σ H) :
    ∃ a, V.ref p = .ref a ∧ (∃ xs, SqT K H a xs) ∧ ForB (Itt K a) g tb ⟨nx, rt, bk, ct⟩ σ H :=
  ⟨p, rfl, ⟨xs, SqT.of (S.tp hi)⟩, for_tup (K := K) (D := ⟨nx, rt, bk, ct⟩) Pv h0 (fun i σ H _ q => SqT.of (hl i σ H q)) hs hd⟩
theorem r_forET (q : tA σ H fun vs H1 => ∃ a xs, vs = [.ref a] ∧ SqT K H1 a xs ∧ ForB (IteT K a) g tb ⟨nx, rt, bk, ct⟩ σ H1) : tFor (iEnumT K tA) g tb ⟨nx, rt, bk, ct⟩ σ H := q
/-- for i, x in enumerate(t), t a tuple -/
theorem forET (S : Sep l H) (hi : l[e]? = some (Tp p xs)) (Pv : Nat → L2.St → Hp → Prop) (h0 : Pv 0 σ H) (hl : ∀ i σ H, Pv i σ H → H p = some (.tup xs))
    (hs : ∀ i x T σ H H', xs[i]? = some x → Pv i σ H → H T = none → H' = upd H T (.tup [.int (i : Nat), x]) → g (.ref T) σ H' fun σ2 H2 => tb ⟨Pv (i + 1), rt, nx, Pv (i + 1)⟩ σ2 H2) (hd : ∀ σ H, Pv xs.length σ H → nx σ H) :
    ∃ a ys, [V.ref p] = [.ref a] ∧ SqT K H a ys ∧ ForB (IteT K a) g tb ⟨nx, rt, bk, ct⟩ σ H := by
  refine ⟨p, xs, rfl, SqT.of (S.tp hi), fun i m σ H => m = xs.length - i ∧ i ≤ xs.length ∧ Pv i σ H, ⟨xs.length, by simp, Nat.zero_le _, h0⟩, ?_⟩
  rintro i m σ H ⟨rfl, hi, q⟩
  have hq : SqT K H p xs := SqT.of (hl i σ H q)
  by_cases hlt : i < xs.length
  · refine .inr ⟨⟨xs, xs[i], hq, by simp [hlt]⟩, Pv (i + 1), fun σ' H' p' => ⟨xs.length - (i + 1), by omega, rfl, hlt, p'⟩, fun x H' y => ?_⟩
    obtain ⟨T, z, rfl, hn, rfl, f⟩ := y
    exact hs i z T σ H _ (f xs hq) q hn rfl
  · have e : i = xs.length := by omega
    subst e
    exact .inl ⟨⟨xs, hq, Nat.le_refl _⟩, hd σ H q⟩
end
end
local macro_rules | `(tactic| walk_at "v1") => `(tactic| (first
  | with_reducible refine r_forET ?_
  | with_reducible refine in_sign ?_
  | ((with_reducible refine' c_tupT (by assumption) ?hi ?_); (case hi => walk_at "has"))
  | ((with_reducible refine' c_tupL (by assumption) ?hi ?_); (case hi => walk_at "has"); intro _ _ _)
  | ((with_reducible refine' in_strs (by assumption) ?hi ?_); (case hi => walk_at "has"))
  | ((with_reducible refine' nin_strs (by assumption) ?hi ?_); (case hi => walk_at "has"))
  | ((with_reducible refine' c_all (by assumption) ?hi ?_); (case hi => walk_at "has"))
  | ((with_reducible refine' c_any (by assumption) ?hi ?_); (case hi => walk_at "has"))))

/-! rules -/
/-- the numbers of a rule -/
def Ends (ns : List Int) : Prop := (∀ n ∈ ns, 0 ≤ n ∧ n ≤ 9) ∧ ((∃ a, ns = [a]) ∨ ∃ a b, ns = [a, b] ∧ a ≤ b)
def Kds (ks : List Str) : Prop := 1 ≤ ks.length ∧ ks.length ≤ 3 ∧ ks.Nodup ∧ ∀ w ∈ ks, Kd w
theorem cut_pre {xs : List V} {i : Nat} (h : i ≤ xs.length) : cutV xs none (some (i : Int)) = xs.take i := by
  unfold cutV
  rw [HT.sIx_none, HT.sIx_nat, Nat.min_eq_left h, Nat.sub_zero]
  rfl
theorem Kd.len {w : Str} (h : Kd w) : w.length ≤ 8 := h.1.2.1
/-- a rule at p -/
def Ru (p C : Addr) (a b : V) (ks : List V) : Asn := Exs fun t : Addr => Pk [Ob p C [("least", a), ("most", b), ("kinds", .ref t)], Tp t ks]
theorem ru_open {p C : Addr} {a b : V} {ks : List V} {l : List Asn} {H : Hp} (S : Sep (Ru p C a b ks :: l) H) : ∃ t, Sep (Ob p C [("least", a), ("most", b), ("kinds", .ref t)] :: Tp t ks :: l) H := by
  obtain ⟨t, S⟩ := S.ex
  exact ⟨t, S.open'⟩
theorem ru_close {p C t : Addr} {a b : V} {ks : List V} {l : List Asn} {H : Hp} (S : Sep (Ob p C [("least", a), ("most", b), ("kinds", .ref t)] :: Tp t ks :: l) H) : Sep (Ru p C a b ks :: l) H := Sep.ex' (x := t) (Sep.close' (l := [_, _]) S)
abbrev rNs : List Str := ["least", "most", "kinds"]

/-! equality of data -/
def dStrs (ws : List Str) : List PyData := ws.map PyData.str
theorem shaped_all {ds : List PyData} (h : ∀ d ∈ ds, d.canLay0 = true ∧ d.depth = 0) : PyData.canLayAll0 ds = true ∧ PyData.depthAll ds = 0 := by
  induction ds with
  | nil => exact ⟨rfl, rfl⟩
  | cons d ds ih =>
    obtain ⟨h1, h2⟩ := h d List.mem_cons_self
    obtain ⟨i1, i2⟩ := ih fun x hx => h x (List.mem_cons_of_mem _ hx)
    refine ⟨by rw [PyData.canLayAll0, h1, i1]; rfl, ?_⟩
    rw [PyData.depthAll, h2, i2]; rfl
theorem shaped_tup {ds : List PyData} (h : ∀ d ∈ ds, d.canLay0 = true ∧ d.depth = 0) : SeqAt.shaped (.tuple ds) = true := by
  obtain ⟨h1, h2⟩ := shaped_all h
  unfold SeqAt.shaped
  rw [PyData.canLay0, h1, PyData.depth, h2]; rfl
theorem shaped_lst {ds : List PyData} (h : ∀ d ∈ ds, d.canLay0 = true ∧ d.depth = 0) : SeqAt.shaped (.list ds) = true := by
  obtain ⟨h1, h2⟩ := shaped_all h
  unfold SeqAt.shaped
  rw [PyData.canLay0, h1, PyData.depth, h2]; rfl
theorem strOk_word {w : Str} (h : Wd w) : PyData.strOk w = true := by
  unfold PyData.strOk
  rw [← Array.all_toList, List.all_eq_true]
  intro c hc
  have := abc_mem.1 (h.2.2 c hc)
  exact decide_eq_true (by omega)
theorem flat_dstrs {ws : List Str} (h : ∀ w ∈ ws, Wd w) : ∀ d ∈ dStrs ws, d.canLay0 = true ∧ d.depth = 0 := by
  intro d hd
  obtain ⟨w, hw, rfl⟩ := List.mem_map.1 hd
  exact ⟨by rw [PyData.canLay0]; exact strOk_word (h w hw), by rw [PyData.depth]⟩
theorem eqv_dstrs : ∀ ws us : List Str, PyData.eqvAll (dStrs ws) (dStrs us) = decide (ws = us)
  | [], [] => by simp [dStrs, PyData.eqvAll]
  | [], _ :: _ => by simp [dStrs, PyData.eqvAll]
  | _ :: _, [] => by simp [dStrs, PyData.eqvAll]
  | a :: ws, b :: us => by
    show PyData.eqvAll (.str a :: dStrs ws) (.str b :: dStrs us) = _
    rw [PyData.eqvAll, eqv_dstrs ws us, PyData.eqv]
    by_cases h : a = b
    · by_cases h2 : ws = us <;> simp [h, h2]
    · simp [h]
theorem dp_strs {K : PySem.W.Frag} {H : Hp} : ∀ ws : List Str, DpAll K H (ws.map V.str) (dStrs ws)
  | [] => .nil
  | w :: ws => .cons (.str w) (dp_strs ws)
theorem dp_bools {K : PySem.W.Frag} {H : Hp} : ∀ bs : List Bool, DpAll K H (bs.map V.bl) (bs.map PyData.bool)
  | [] => .nil
  | w :: ws => .cons (.bl w) (dp_bools ws)
theorem flat_bools {bs : List Bool} : ∀ d ∈ bs.map PyData.bool, d.canLay0 = true ∧ d.depth = 0 := by
  intro d hd
  obtain ⟨w, hw, rfl⟩ := List.mem_map.1 hd
  exact ⟨by rw [PyData.canLay0], by rw [PyData.depth]⟩
theorem eqv_bools : ∀ bs cs : List Bool, PyData.eqvAll (bs.map PyData.bool) (cs.map PyData.bool) = decide (bs = cs)
  | [], [] => by simp [PyData.eqvAll]
  | [], _ :: _ => by simp [PyData.eqvAll]
  | _ :: _, [] => by simp [PyData.eqvAll]
  | a :: ws, b :: us => by
    show PyData.eqvAll (.bool a :: ws.map PyData.bool) (.bool b :: us.map PyData.bool) = _
    rw [PyData.eqvAll, eqv_bools ws us, PyData.eqv]
    by_cases h : a = b
    · by_cases h2 : ws = us <;> simp [h, h2]
    · simp [h]
section
variable {l : List Asn} {H : Hp} {p p2 : Addr} {K : PySem.W.Frag} {Q : VK} {e e2 : Nat} {ws us : List Str} {bs cs : List Bool}
theorem eq_tups (S : Sep l H) (hi : l[e]? = some (Tp p (ws.map V.str))) (hj : l[e2]? = some (Tp p2 (us.map V.str))) (h1 : ∀ w ∈ ws, Wd w) (h2 : ∀ w ∈ us, Wd w) (q : Q (.bl (decide (ws = us))) H) : gEq K (.ref p) (.ref p2) H Q :=
  .inr ⟨.tuple (dStrs ws), .tuple (dStrs us), .tup (SqT.of (S.tp hi)) (dp_strs ws), .tup (SqT.of (S.tp hj)) (dp_strs us), shaped_tup (flat_dstrs h1), shaped_tup (flat_dstrs h2), by rw [PyData.eqv, eqv_dstrs]; exact q⟩
theorem ne_tups (S : Sep l H) (hi : l[e]? = some (Tp p (ws.map V.str))) (hj : l[e2]? = some (Tp p2 (us.map V.str))) (h1 : ∀ w ∈ ws, Wd w) (h2 : ∀ w ∈ us, Wd w) (q : Q (.bl (!decide (ws = us))) H) : gNe K (.ref p) (.ref p2) H Q :=
  .inr ⟨.tuple (dStrs ws), .tuple (dStrs us), .tup (SqT.of (S.tp hi)) (dp_strs ws), .tup (SqT.of (S.tp hj)) (dp_strs us), shaped_tup (flat_dstrs h1), shaped_tup (flat_dstrs h2), by rw [PyData.eqv, eqv_dstrs]; exact q⟩
theorem eq_bls (S : Sep l H) (hi : l[e]? = some (At p (.lst (bs.map V.bl)))) (hj : l[e2]? = some (At p2 (.lst (cs.map V.bl)))) (q : Q (.bl (decide (bs = cs))) H) : gEq K (.ref p) (.ref p2) H Q :=
  .inr ⟨.list (bs.map .bool), .list (cs.map .bool), .lst (SqL.of (S.at hi)) (dp_bools bs), .lst (SqL.of (S.at hj)) (dp_bools cs), shaped_lst flat_bools, shaped_lst flat_bools, by rw [PyData.eqv, eqv_bools]; exact q⟩
theorem ne_bls (S : Sep l H) (hi : l[e]? = some (At p (.lst (bs.map V.bl)))) (hj : l[e2]? = some (At p2 (.lst (cs.map V.bl)))) (q : Q (.bl (!decide (bs = cs))) H) : gNe K (.ref p) (.ref p2) H Q :=
  .inr ⟨.list (bs.map .bool), .list (cs.map .bool), .lst (SqL.of (S.at hi)) (dp_bools bs), .lst (SqL.of (S.at hj)) (dp_bools cs), shaped_lst flat_bools, shaped_lst flat_bools, by rw [PyData.eqv, eqv_bools]; exact q⟩
/-! rules -/
variable {C : Addr} {a b : V} {ks : List V}
theorem ru_least {f : Str} (hf : f = "least") (S : Sep l H) (hi : l[e]? = some (Ru p C a b ks)) (hC : Kl K C rNs) (q : Q a H) : gFldR K f (.ref p) H Q := by
  subst hf
  obtain ⟨t, S1⟩ := ru_open (S.pick hi)
  exact f_get S1 has0 hC (by decide +kernel) (by walk_at "lk") q
theorem ru_most {f : Str} (hf : f = "most") (S : Sep l H) (hi : l[e]? = some (Ru p C a b ks)) (hC : Kl K C rNs) (q : Q b H) : gFldR K f (.ref p) H Q := by
  subst hf
  obtain ⟨t, S1⟩ := ru_open (S.pick hi)
  exact f_get S1 has0 hC (by decide +kernel) (by walk_at "lk") q
theorem ru_kinds {f : Str} (hf : f = "kinds") (S : Sep l H) (hi : l[e]? = some (Ru p C a b ks)) (hC : Kl K C rNs) (k : ∀ t, Sep (Tp t ks :: l) H → Q (.ref t) H) : gFldR K f (.ref p) H Q := by
  subst hf
  obtain ⟨t, S1⟩ := ru_open (S.pick hi)
  exact f_get S1 has0 hC (by decide +kernel) (by walk_at "lk") (k t (S.addT (S1.tp (i := 1) rfl)))
end
theorem Sep.dropN : ∀ (n : Nat) {l : List Asn} {H : Hp}, Sep l H → Sep (l.drop n) H
  | 0, _, _, S => S
  | _ + 1, [], _, S => S
  | n + 1, _ :: _, _, S => Sep.dropN n S.tail
theorem Sep.keep {l : List Asn} {H : Hp} (S : Sep l H) : ∃ L, L = l ∧ Sep L H := ⟨l, rfl, S⟩
local macro_rules | `(tactic| walk_at "hasR") => `(tactic| (first | with_reducible exact has0 | ((with_reducible refine' hasS ?h2); (case h2 => walk_at "hasR")) | fail "has"))
local macro_rules | `(tactic| walk_at "hasD") => `(tactic| (first | exact has0 | ((with_reducible refine' hasS ?h2); (case h2 => walk_at "hasD")) | fail "has"))
local macro_rules | `(tactic| walk_at "has") => `(tactic| (first | walk_at "hasR" | walk_at "hasD" | fail "has"))
local macro_rules | `(tactic| walk_at "v1") => `(tactic| (first
  | ((with_reducible refine' ru_least ?hf (by assumption) ?hi ?hC ?_); (case hf => decide +kernel); (case hi => walk_at "has"); (case hC => assumption))
  | ((with_reducible refine' ru_most ?hf (by assumption) ?hi ?hC ?_); (case hf => decide +kernel); (case hi => walk_at "has"); (case hC => assumption))
  | ((with_reducible refine' ru_kinds ?hf (by assumption) ?hi ?hC ?_); (case hf => decide +kernel); (case hi => walk_at "has"); (case hC => assumption); intro _ _)))

/-! sorted by key=str: of a dict's keys, a tuple, a list -/
section
open PyProof.Rows
abbrev byStr : Str → Str → Bool := PySem.W.dataLe false (fun w : Str => PyData.str w)
theorem byStr_pairs (ks : List Str) : sortedS (ks.mergeSort byStr) = true := by
  refine sortedS_of_pairwise _ ?_
  have h := PySem.W.sort_pairwise (PySem.W.sortLe_total (listOrd itemOrd) false fun w : Str => PySem.W.keyToks (PyData.str w)) ks
  refine h.imp fun {a b} hab => ?_
  have e : byStr a b = decide (a.cps.toList ≤ b.cps.toList) := congrFun (congrFun (PySem.W.dataLe_str fun w : Str => w) a) b
  have hab' : byStr a b = true := hab
  rw [e] at hab'
  rw [ltCps_eq]
  exact decide_eq_false (List.not_lt.2 (of_decide_eq_true hab'))
section
variable {prog : Program} {w : World} {A : Around} {E : Value → Shared → Prop} {s : Shared}
theorem each_of_vals : ∀ {ks : List Str} {vs : List Value}, Vals (ks.map V.str) vs → PySem.W.EachIs (fun v (x : Str) => RelV (.str x) v) vs ks
  | [], [], _ => .nil
  | k :: ks, v :: vs, .cons r rr => .cons r (each_of_vals rr)
theorem vals_of_each : ∀ {vs : List Value} {ks : List Str}, PySem.W.EachIs (fun v (x : Str) => RelV (.str x) v) vs ks → Vals (ks.map V.str) vs
  | _, _, .nil => .nil
  | _, _, .cons r rr => .cons r (vals_of_each rr)
theorem ls_key {a : Addr} {n : Nat} {vs : List Value} {ks : List Str} {Q : Value → Shared → Prop} (ho : s.heap.get? a = some (seqObj "list" vs.toArray n)) (r : Vals (ks.map V.str) vs) (hL : ks.length ≤ sizeLine) (hu : A.units + 1 < cLine)
    (h : ∀ out c h' tk ys, PySem.W.KeepsBut a s.heap h' → h'.get? a = some (seqObj "list" (List.toArray out) c) → ys.Perm ks → sortedS ys = true → Vals (ys.map V.str) out → Q .none { s with heap := h', toks := tk }) :
    wpAny (model prog w) A (call (.builtin "list.sort") [.ref a] [(Str.ofString "key", .type "str")]) Q E s := by
  refine PySem.W.list_sort_key_data (f := .type "str") (b := false) (fun x : Str => PyData.str x) ho (each_of_vals r) (fun d hd d' hd' => ?_) (.inr fun d hd => ?_) hL (fun x _ => ?_) (ksk_l1 _ _) rfl (fun v x hv hx h tk kp => ?_) fun out c h' tk kp hat hl e => ?_
  · obtain ⟨x, _, rfl⟩ := List.mem_map.1 hd
    obtain ⟨y, _, rfl⟩ := List.mem_map.1 hd'
    rfl
  · obtain ⟨x, _, rfl⟩ := List.mem_map.1 hd
    exact ⟨(fun z => nomatch z), (fun _ z => nomatch z)⟩
  · have e : (PyData.str x).depth = 0 := by rw [PyData.depth]
    show A.units + 1 + (PyData.str x).depth < cLine
    rw [e]; exact hu
  · obtain ⟨t, rfl⟩ := hv
    exact PySem.P.str_of_str ⟨h, tk, rfl, fun _ _ q => q, .str x t⟩
  · exact h out c h' tk _ kp hat (List.mergeSort_perm ks byStr) (byStr_pairs ks) (vals_of_each e)
/-- sorted of what is gathered as vs -/
theorem so_key {it : Value} {ks : List Str} {Q : Value → Shared → Prop} (hL : ks.length ≤ sizeLine) (hu : A.units + 3 < cLine)
    (hc : ∀ (P : List Value → Shared → Prop), (∀ (vs : List Value) (h' : Heap) (tk : Nat), (∀ b o, s.heap.get? b = some o → h'.get? b = some o) → Vals (ks.map V.str) vs → P vs { s with heap := h', toks := tk }) → wpAny (model prog w) A.in1 (collect it) P E s)
    (h : ∀ (h1 h2 : Heap) (tk : Nat) (ys : List Str) (out : List Value) (c : Nat), (∀ b o, s.heap.get? b = some o → h1.get? b = some o) → (∀ b o, h1.get? b = some o → h2.get? b = some o) → h2.get? h1.objs.size = some (seqObj "list" (List.toArray out) c) → ys.Perm ks → sortedS ys = true → Vals (ys.map V.str) out → Q (.ref h1.objs.size) { s with heap := h2, toks := tk }) :
    wpAny (model prog w) A (call (.builtin "sorted") [it] [(Str.ofString "key", .type "str")]) Q E s := by
  refine call_function_entry_kw kind_sorted plain_sorted entry_sorted (ksk_s1 _ _) ?_
  unfold Builtin.«sorted»
  refine wpAny_bind (m := checkCount "sorted" 1 1 _) (wpAny_pure ?_)
  refine wpAny_bind (hc _ fun vs h1 tk1 k1 r => ?_)
  have hl : vs.length = ks.length := by rw [← r.length, List.length_map]
  refine wpAny_bind (wpAny_newList ?_ (by rw [hl]; exact hL))
  have hoL : (h1.push (seqObj "list" vs.toArray 0)).get? h1.objs.size = some (seqObj "list" vs.toArray 0) := Heap.get?_push_size _ rfl
  show wpAny _ _ _ _ _ { s with heap := h1.push (seqObj "list" vs.toArray 0), toks := tk1 }
  refine wpAny_bind (wpAny_holding (ls_key (s := { s with heap := h1.push (seqObj "list" vs.toArray 0), toks := tk1 }) hoL r hL (show A.units + 1 + 1 < cLine by omega) fun out c h2 tk2 ys kp hat hp hs hv => ?_))
  have hn1 : h1.get? h1.objs.size = none := Heap.get?_none_of_le (Nat.le_refl _)
  exact wpAny_pure ⟨_, rfl, h h1 h2 tk2 ys out c k1 (fun b o q => kp b o (fun z => by rw [z, hn1] at q; cases q) (Heap.get?_push_of_some _ q)) hat hp hs hv⟩
end
section
variable {X : Cx}
/-- sorted(x, key=str): of a dict's keys, a tuple, a list of texts -/
def gSortK (K : PySem.W.Frag) : List V → List V → Hp → VK → Prop := fun vs zs H Q => ∃ (a : Addr) (ks : List Str), vs = [.ref a] ∧ zs = [.ty "str"] ∧ ks.length ≤ 1000 ∧
  ((∃ kvs, Rd H a (.dK kvs) ∧ kvs.map (·.1) = ks.map Sum.inr) ∨ SqT K H a (ks.map V.str) ∨ SqL K H a (ks.map V.str)) ∧
  ∀ ys p, ys.Perm ks → sortedS ys = true → H p = none → Q (.ref p) (upd H p (.lst (ys.map V.str)))
theorem call_gSortK {K : PySem.W.Frag} (hK : X.K = K) (hcalm : X.calm = true) (hu : X.A.units + 64 < cLine) : CallRK X (.builtin "sorted") [Str.ofString "key"] (gSortK K) := by
  subst hK
  intro pins s σ H vs zs us ws Q I r rz h
  obtain ⟨a, ks, rfl, rfl, h1000, ha, q⟩ := h
  obtain rfl := Vals.ref1 r
  obtain ⟨w1, rfl, e1⟩ := vals1 rz
  obtain rfl : w1 = Value.type "str" := e1
  have hL : ks.length ≤ sizeLine := Nat.le_trans h1000 (by decide)
  refine so_key (s := s) (ks := ks) hL (show X.A.units + 3 < cLine by omega) (fun P k => ?_) fun h1 h2 tk ys out c k1 k2 hat hp hs hv => ?_
  · rcases ha with ⟨kvs, hd, hks⟩ | hT | hS
    · obtain ⟨z, lo, vs, rel, dd⟩ := dk_rd I.hok hd
      obtain ⟨ep, hat⟩ := dd.dictAt
      have hkeys : vs.map (·.1) = ks.map Sum.inr := rel.keys.symm.trans hks
      have hl : vs.length = ks.length := by
        have e := congrArg List.length hkeys
        rw [List.length_map, List.length_map] at e
        exact e
      have h16 : vs.length ≤ sizeLine := by rw [hl]; exact hL
      refine PySem.W.kdu_collect (A := X.A.in1) (PySem.W.kdl_dict (knd := mixKind X.prog X.w) (kvs := vs) (ep := ep) lo) (I.ok.hd hcalm) hat h16 fun h' tk acc hk hacc => ?_
      refine k _ _ _ hk ?_
      have e : ks.map V.str = vs.map fun p => kV p.1 := by
        have e1 : vs.map (fun p => kV p.1) = (vs.map (·.1)).map kV := by rw [List.map_map]; rfl
        rw [e1, hkeys, List.map_map]; rfl
      rw [e]
      exact keys_at (by rw [Array.length_toList, hacc.1]) fun j v ev => hacc.2 j v (by rw [← Array.getElem?_toList]; exact ev)
    · obtain ⟨its, rv, p, hz⟩ := I.tuple hT
      have p' : s.heap.IsTuple a its.toArray := p
      obtain ⟨o, ho, hc, n, hd⟩ := p'
      have hl := rv.length
      rw [List.length_map] at hl
      exact wpAny_collect_seq a (.inr rfl) ho hc hd (fun h' hk => k _ _ _ hk (by rw [show its.toArray.toList = its by simp]; exact rv)) (by rw [List.size_toArray]; omega)
    · obtain ⟨its, rv, p, hz⟩ := I.list hS
      obtain ⟨o, ho, hc, n, hd⟩ := p.isList
      have hl := rv.length
      rw [List.length_map] at hl
      exact wpAny_collect_seq a (.inl rfl) ho hc hd (fun h' hk => k _ _ _ hk (by rw [show its.toArray.toList = its by simp]; exact rv)) (by rw [List.size_toArray]; omega)
  · have I1 : Inv X pins σ H { s with heap := h1, toks := s.toks } := I.kept k1
    have hlen : (ys.map V.str).length ≤ sizeLine := by rw [List.length_map, hp.length_eq]; exact hL
    exact ⟨.ref h1.objs.size, upd H h1.objs.size (.lst (ys.map V.str)), I1.laid (t' := tk) k2 (Nat.le_refl _) (show ObjOk X.prog X.w _ _ _ (.lst (ys.map V.str)) from ⟨hlen, out, c, hv, hat⟩), rfl, q ys _ hp hs (I1.hok.fresh (Nat.le_refl _))⟩
end
/-! its step -/
section
variable {l : List Asn} {H : Hp} {p : Addr} {K : PySem.W.Frag} {Q : VK} {e : Nat} {ws : List Str}
theorem r_ckw {σ : L2.St} {r : List V → List V → Hp → VK → Prop} {t tk : TA} (q : t σ H fun vs H1 => tk σ H1 fun zs H2 => r vs zs H2 Q) : tCKw r t tk σ H Q := q
theorem sk_list (S : Sep l H) (hi : l[e]? = some (At p (.lst (ws.map V.str)))) (hz : ws.length ≤ 1000) (k : ∀ (ys : List Str) d H', ys.Perm ws → sortedS ys = true → Sep (At d (.lst (ys.map V.str)) :: l) H' → Q (.ref d) H') : gSortK K [.ref p] [.ty "str"] H Q :=
  ⟨p, ws, rfl, rfl, hz, .inr (.inr (SqL.of (S.at hi))), fun ys d hp hs hd => k ys d _ hp hs (S.new hd)⟩
theorem sk_tup (S : Sep l H) (hi : l[e]? = some (Tp p (ws.map V.str))) (hz : ws.length ≤ 1000) (k : ∀ (ys : List Str) d H', ys.Perm ws → sortedS ys = true → Sep (At d (.lst (ys.map V.str)) :: l) H' → Q (.ref d) H') : gSortK K [.ref p] [.ty "str"] H Q :=
  ⟨p, ws, rfl, rfl, hz, .inr (.inl (SqT.of (S.tp hi))), fun ys d hp hs hd => k ys d _ hp hs (S.new hd)⟩
theorem sk_dict {kvs : List (Key × V)} (S : Sep l H) (hi : l[e]? = some (At p (.dK kvs))) (hk : kvs.map (·.1) = ws.map Sum.inr) (hz : ws.length ≤ 1000) (k : ∀ (ys : List Str) d H', ys.Perm ws → sortedS ys = true → Sep (At d (.lst (ys.map V.str)) :: l) H' → Q (.ref d) H') : gSortK K [.ref p] [.ty "str"] H Q :=
  ⟨p, ws, rfl, rfl, hz, .inl ⟨kvs, .inl (S.at hi), hk⟩, fun ys d hp hs hd => k ys d _ hp hs (S.new hd)⟩
end
end
local macro_rules | `(tactic| walk_at "v1") => `(tactic| (with_reducible refine r_ckw ?_))

/-! a def whose only further parameter gathers keywords, called without any; an instance made without arguments -/
section
open PyProof.Rows
section
variable {CX : CXT} {P : Program} {w : World} {K : PySem.W.Frag} {mg : Str → Option Value} {base : Heap} {k : Nat} {f : Addr} {name qual : Str} {params : Arguments} {body : List Stmt} {scope : Scope} {dV kV doc pm cdv ct oc : Value} {an od : Option Addr}
  {osl : Array (Option Value)} {N ps : List Str} {sp : Sp}
theorem fn_kw0 {pd : Str} (lk : K.lookup f = some ⟨oc, od, .func (PySem.W.fnOf name qual params body scope dV kV doc pm an cdv ct), osl⟩) (hcd : PySem.W.codeIn K cdv qual = true) (S : FnScope N (ps ++ [pd]) scope) (hCX : StX.CXUp CX)
    (bind : ∀ us : List Value, us.length = ps.length → bindArgs (PySem.W.fnOf name qual params body scope dV kV doc pm an cdv ct) ⟨us, []⟩ = ((alloc ({ cls := .type "dict", data := .dict #[] } : Obj) : Sem Addr) >>= fun d => pure (ps.zip us ++ [(pd, Value.ref d)])))
    (walk : ∀ (A : Around) (outer : List Env) (s : Shared) (H : Hp) (vs : List V) (Q : VK) (E : XK), Room k (A.deeper (envOfC qual scope s.heap.objs.size f cdv)) → sp vs H Q E →
      ∃ t, PSs (cxOf CX P w K mg base N qual scope f cdv A outer s H E) body t ∧ t { nx := fun _ H' => Q .non H', rt := Q } (start N vs) H) :
    FnR P w K mg base CX (k + 1) f (fun vs H Q E => vs.length = ps.length ∧ ∀ d, H d = Option.none → sp (vs ++ [V.ref d]) (upd H d (.dK [])) Q E) := by
  rintro A outer s H us vs Q E hr e0 r ⟨hl, hq⟩
  have hn : H s.heap.objs.size = Option.none := e0.hok.fresh (Nat.le_refl _)
  have hlu : us.length = ps.length := by rw [← r.length]; exact hl
  refine StX.run_bnd lk hcd S hr e0 (G := fun xs H2 => ∃ d, H d = Option.none ∧ xs = vs ++ [V.ref d] ∧ H2 = upd H d (.dK [])) (fun A' Ex Q' h => ?_) (fun s2 H2 xs g hr' => ?_)
  · rw [bind us hlu]
    refine wpAny_bind (wpAny_alloc (wpAny_pure ?_))
    have un := StX.un_laid (fs := frs outer) (s := s) (o := ({ cls := .type "dict", data := .dict #[] } : Obj)) (u := .dK []) hn
    have e1 := StX.env0_laid (u := .dK []) (o := ({ cls := .type "dict", data := .dict #[] } : Obj)) e0 (dk_empty _ (StX.env0_big e0))
    have z := h _ _ (vs ++ [V.ref s.heap.objs.size]) (us ++ [Value.ref s.heap.objs.size]) e1 un rfl (fun e s' => hCX outer s H _ _ E e s' un (fun b o q => Heap.get?_push_of_some _ q) rfl) (r.append (.cons rfl .nil))
      (by rw [List.length_append, List.length_append, hl] <;> rfl) ⟨_, hn, rfl, rfl⟩
    rw [List.zip_append hlu.symm] at z
    exact z
  · obtain ⟨d, hd, rfl, rfl⟩ := g
    exact walk A outer s2 _ _ Q E hr' (hq d hd)
end
theorem fun_kw0 {P : Program} {w : World} {K : PySem.W.Frag} {mg : Str → Option Value} {base : Heap} {x qual : Str} {st : Stmt} {f : Addr} {fd : FuncData} {N ps : List Str} {pd : Str} {k : Nat} {sp : Sp} (F : Fun K x qual st f fd) (S : FnScope N (ps ++ [pd]) (defScope st))
    (bind : ∀ (kV doc pm : Value) (an : Option Addr) (cdv ct : Value) (us : List Value), us.length = ps.length → bindArgs (PySem.W.fnOf x qual (defArgs st) (defBody st) (defScope st) .none kV doc pm an cdv ct) ⟨us, []⟩ = ((alloc ({ cls := .type "dict", data := .dict #[] } : Obj) : Sem Addr) >>= fun d => pure (ps.zip us ++ [(pd, Value.ref d)])))
    (walk : ∀ (cdv : Value) (A : Around) (outer : List Env) (s : Shared) (H : Hp) (vs : List V) (Q : VK) (E : XK), Room k (A.deeper (envOfC qual (defScope st) s.heap.objs.size f cdv)) → sp vs H Q E →
      ∃ t, PSs (cxOf CX0 P w K mg base N qual (defScope st) f cdv A outer s H E).nox (defBody st) t ∧ t { nx := fun _ H' => Q .non H', rt := Q } (start N vs) H) :
    FnR P w K mg base CX0 (k + 1) f (fun vs H Q E => vs.length = ps.length ∧ ∀ d, H d = Option.none → sp (vs ++ [V.ref d]) (upd H d (.dK [])) Q E) := by
  obtain ⟨oc, od, kV, doc, pm, an, cdv, ct, osl, rfl, lk, hcd⟩ := F.ex
  refine fn_kw0 lk hcd S StX.cxUp_none (bind kV doc pm an cdv ct) fun A outer s H vs Q E hr hsp => ?_
  obtain ⟨t, h, q⟩ := walk cdv A outer s H vs Q E hr hsp
  exact ⟨t, h.nox, q⟩
/-- C() -/
theorem pe_makeR0 {X : Cx} {CX : CXT} {k : Nat} {f C : Addr} {sp : Sp} {E : XK} {x : Str} {p pos : Pos} (M : Mk X.K C f) (F : FnR X.prog X.w X.K X.mg X.base CX k f sp) (hr : Room (k + 1) X.A) (hg : Gl X x) (hm : X.mg x = some (.ref C)) (hx : Passes CX X E) (hdb : (x == ("__debug__" : Str)) = false := by decide) :
    PE X (.Call (.Name x p) [] [] pos) (StX.tMakeR C sp E tNil) := by
  refine ⟨fun pins s σ H Q I h => ?_⟩
  refine wpAny_Call_Name_kw (ld_glob I hg hm ?_ hdb)
  exact PySem.W.callWith_K0 (first := []) I.kIn M.kp (StX.run_makeR M F hr hx I .nil h)
/-- o.m() -/
theorem pe_methR0 {X : Cx} {CX : CXT} {k : Nat} {C f : Addr} {m : Str} {sp : Sp} {E : XK} {o : Expr} {ta : TE} {apos pos : Pos} {pl : Sem Bool} (he : PE X o ta) (c : Cls X.K C) (hm : Meth X.K C m f)
    (F : FnR X.prog X.w X.K X.mg X.base CX k f sp) (hr : Room k X.A) (hx : Passes CX X E)
    (ht : eval (.Call (.Attribute o m apos) [] [] pos) X.env = (do
      let ov ← eval o X.env
      standAt apos.atName
      let (f, first) ← holding [ov] (getMethod ov m pl)
      callWith pos f first (backTo pos (starEach [] X.env)) (backToKw pos (keywordEach [] X.env))) := by rfl) :
    PE X (.Call (.Attribute o m apos) [] [] pos) (tMethR C m sp E ta tNil) := by
  refine ⟨fun pins s σ H Q I h => ?_⟩
  refine PySem.W.methodCall_KW (pl := pl) (thn (he.run pins s σ H _ I h) fun u s1 ⟨x, H1, I1, rx, a, dx, fs, ex, ea, l, q⟩ => ?_) ht
  subst ex
  obtain rfl : u = Value.ref a := rx
  refine getmeth_ok I1 ea c hm l ?_
  exact PySem.W.callWith_K0 (first := [.ref a]) I1.kIn hm.kp (wpAny_call (run_fnR (us := [.ref a]) (vs := [.ref a]) F hr hx I1 (.cons rfl .nil) q))
/-- the receiver is an instance without such an attribute -/
def gM (C : Addr) (m : Str) (x : V) (H : Hp) (R : Prop) : Prop := ∃ a dx fs, x = .ref a ∧ H a = some (.ins C dx fs) ∧ fs.lookup m = none ∧ R
theorem r_meth {C : Addr} {m : Str} {sp : Sp} {E : XK} {ta : TE} {t : TA} {σ : L2.St} {H : Hp} {Q : VK} (q : ta σ H fun x H1 => gM C m x H1 (t σ H1 fun vs H2 => sp (x :: vs) H2 Q E)) : tMethR C m sp E ta t σ H Q := q
theorem lkN {f g : Str} {v : V} (h : (f == g) = false) : List.lookup f [(g, v)] = none := by
  show (match f == g with | true => some v | false => _) = _
  rw [h]; rfl

end
/-! counts -/
def kwSp (n : Nat) (sp : Sp) : Sp := fun vs H Q E => vs.length = n ∧ ∀ d, H d = Option.none → sp (vs ++ [V.ref d]) (upd H d (.dK [])) Q E
/-- counts: an instance whose dict has the words with a number that is not 0 -/
def Good (m : List (Str × Int)) : Prop := (keys m).Nodup ∧ (∀ x ∈ m, x.2 ≠ 0 ∧ Wd x.1) ∧ m.length ≤ 500
def Co (p C : Addr) (g : Str → Int) : Asn := Exs fun (x : Addr × List (Str × Int)) => Pk [pure' (Good x.2 ∧ num x.2 = g), Ob p C [("_numbers", .ref x.1)], At x.1 (.dK (mp x.2))]
abbrev cNs : List Str := ["_numbers"]
section
variable {l : List Asn} {H : Hp} {p C d : Addr} {g : Str → Int} {m : List (Str × Int)}
theorem co_open (S : Sep (Co p C g :: l) H) : ∃ d m, Good m ∧ num m = g ∧ Sep (Ob p C [("_numbers", .ref d)] :: At d (.dK (mp m)) :: l) H := by
  obtain ⟨⟨d, m⟩, S⟩ := S.ex
  obtain ⟨⟨h1, h2⟩, S⟩ := (S.open').pure
  exact ⟨d, m, h1, h2, S⟩
theorem co_close (h : Good m) (e : num m = g) (S : Sep (Ob p C [("_numbers", .ref d)] :: At d (.dK (mp m)) :: l) H) : Sep (Co p C g :: l) H :=
  Sep.ex' (x := (d, m)) (Sep.close' (l := [_, _, _]) (Sep.pure_in ⟨h, e⟩ S))
end
theorem m_co {l : List Asn} {H : Hp} {p C : Addr} {g : Str → Int} {f : Str} {R : Prop} {e : Nat} (S : Sep l H) (hi : l[e]? = some (Co p C g)) (hf : (f == ("_numbers" : Str)) = false) (q : R) : gM C f (.ref p) H R := by
  obtain ⟨d, m, _, _, S1⟩ := co_open (S.pick hi)
  obtain ⟨dx, h⟩ := ob_at S1 (e := 0) rfl
  exact ⟨p, dx, _, rfl, h, lkN hf, q⟩
local macro_rules | `(tactic| walk_at "v1") => `(tactic| (first
  | with_reducible refine r_meth ?_
  | ((with_reducible refine' m_co (by assumption) ?hi ?hf ?_); (case hi => walk_at "has"); (case hf => decide +kernel))))
/-! dict comprehensions -/
def DcB (J : It) (g : TG) (tt : TT) (tk tv : TE) (vs : List Nat) : L2.St → Hp → VK → Prop := fun σ H1 Q => ∀ D, H1 D = none → ∃ W : Nat → Nat → Hp → Prop, (∃ m, W 0 m (upd H1 D (.dK []))) ∧ ∀ i m H, W i m H →
  (J.stop i H ∧ Q (.ref D) H) ∨ (J.go i H ∧ ∃ Nx : Hp → Prop, (∀ H', Nx H' → ∃ m', m' < m ∧ W (i + 1) m' H') ∧ ∀ x H', J.yld i H x H' → g x (wipe σ vs) H' fun σ2 H2 => wipe σ2 vs = wipe σ vs ∧ tt σ2 H2 fun b H3 =>
    if b = true then tk σ2 H3 fun y H4 => tv σ2 H4 fun z H5 => ∃ kvs k, y = kV k ∧ H5 D = some (.dK kvs) ∧ kvs.length < sizeLine ∧ Nx (upd H5 D (.dK (putK kvs k z))) else Nx H3)
/-- the item goes to the new dict -/
def gDPut (D : Addr) (y z : V) (H : Hp) (N : Hp → Prop) : Prop := ∃ kvs k, y = kV k ∧ H D = some (.dK kvs) ∧ kvs.length < sizeLine ∧ N (upd H D (.dK (putK kvs k z)))
def DcT (g : TG) (tt : TT) (tk tv : TE) (vs : List Nat) (σ : L2.St) (x : V) (D : Addr) (N : Hp → Prop) (H : Hp) : Prop := g x (wipe σ vs) H fun σ2 H2 => wipe σ2 vs = wipe σ vs ∧ tt σ2 H2 fun b H3 =>
  if b = true then tk σ2 H3 fun y H4 => tv σ2 H4 fun z H5 => gDPut D y z H5 N else N H3
section
variable {σ : L2.St} {H : Hp} {K : PySem.W.Frag} {g : TG} {te ta tk tv : TE} {tt : TT} {vs : List Nat} {Q : VK} {l : List Asn} {p : Addr} {xs : List V}
theorem dc_turn {x : V} {N : Hp → Prop} {D : Addr} (q : g x (wipe σ vs) H fun σ2 H2 => wipe σ2 vs = wipe σ vs ∧ tt σ2 H2 fun b H3 => if b = true then tk σ2 H3 fun y H4 => tv σ2 H4 fun z H5 => gDPut D y z H5 N else N H3) : DcT g tt tk tv vs σ x D N H := q
theorem r_dcL (q : te σ H fun x H1 => ∃ a, x = .ref a ∧ (∃ xs, SqL K H1 a xs) ∧ DcB (Itl K a) g tt tk tv vs σ H1 Q) : tDc (iList K te) g tt tk tv vs σ H Q := q
/-- {k: v for x in xs if ..}, xs at an address of ours; D: the new dict's address -/
theorem dcL {e : Nat} (S : Sep l H) (hi : l[e]? = some (At p (.lst xs))) (Pv : Addr → Nat → Hp → Prop) (h0 : ∀ D H', Sep (At D (.dK []) :: l) H' → Pv D 0 H') (hl : ∀ D i H, Pv D i H → H p = some (.lst xs))
    (hs : ∀ D i x H, xs[i]? = some x → Pv D i H → DcT g tt tk tv vs σ x D (Pv D (i + 1)) H) (hd : ∀ D H, Pv D xs.length H → Q (.ref D) H) : ∃ a, V.ref p = .ref a ∧ (∃ xs, SqL K H a xs) ∧ DcB (Itl K a) g tt tk tv vs σ H Q := by
  refine ⟨p, rfl, ⟨xs, SqL.of (S.at hi)⟩, fun D hD => ⟨fun i m H => m = xs.length - i ∧ i ≤ xs.length ∧ Pv D i H, ⟨xs.length, by simp, Nat.zero_le _, h0 D _ (S.new hD)⟩, ?_⟩⟩
  rintro i m H ⟨rfl, hi, q⟩
  have hq := SqL.of (K := K) (hl D i H q)
  by_cases hlt : i < xs.length
  · refine .inr ⟨⟨xs, xs[i], hq, by simp [hlt]⟩, Pv D (i + 1), fun H' p' => ⟨xs.length - (i + 1), by omega, rfl, hlt, p'⟩, fun x H' y => ?_⟩
    obtain ⟨rfl, f⟩ := y
    exact hs D i x _ (f xs hq) q
  · have e : i = xs.length := by omega
    subst e
    exact .inl ⟨⟨xs, hq, Nat.le_refl _⟩, hd D H q⟩
theorem dp_put {e : Nat} {D : Addr} {m : List (Str × Int)} {w : Str} {n : Int} {N : Hp → Prop} (S : Sep l H) (hi : l[e]? = some (At D (.dK (mp m)))) (hn : (keys m).Nodup) (hz : m.length < 100000) (k : ∀ H', Sep (l.set e (At D (.dK (mp (mput m w n))))) H' → N H') : gDPut D (.str w) (.int n) H N :=
  ⟨mp m, Sum.inr w, rfl, S.at hi, by rw [List.length_map]; exact Nat.lt_of_lt_of_le hz (by decide), by rw [put_mp m w n hn]; exact k _ (S.upd hi fun _ z => nomatch z)⟩
end
theorem var_at {i : Nat} {σ : L2.St} {v : V} (h : σ[i]? = some (some v)) : ∀ H', tVar i σ H' = fun Q => Q v H' :=
  fun _ => funext fun _ => propext ⟨fun ⟨u, e, q⟩ => by rw [h] at e; cases e; exact q, fun q => ⟨v, h, q⟩⟩
/-- {.. for .. in d.items() ..}, d locked meanwhile and without an item -/
theorem dcI0 {σ : L2.St} {H : Hp} {g : TG} {te tk tv : TE} {tt : TT} {vs : List Nat} {Q : VK} {l : List Asn} {p : Addr} {e : Nat} (S : Sep l H) (hi : l[e]? = some (At p (.dK []))) (hv : ∀ H', te σ H' = fun Q => Q (.ref p) H')
    (k : ∀ D H', Sep (At D (.dK []) :: l) H' → Q (.ref D) H') : tLockE (tDc (iItems te) g tt tk tv vs) σ H Q := by
  refine ⟨p, .dK [], S.at hi, trivial, fun od => ?_⟩
  have S' := S.upd hi (o' := .frz od (.dK [])) (fun _ z => nomatch z)
  show te σ _ _
  rw [hv]
  refine ⟨p, od, [], rfl, upd_same, fun D hD => ⟨fun i m H' => i = 0 ∧ Sep (At D (.dK []) :: l.set e (At p (.frz od (.dK [])))) H', ⟨0, rfl, S'.new hD⟩, ?_⟩⟩
  rintro i m H' ⟨rfl, S2⟩
  have he : (At D (.dK []) :: l.set e (At p (.frz od (.dK []))))[e + 1]? = some (At p (.frz od (.dK []))) := by
    show (l.set e _)[e]? = _
    exact List.getElem?_set_self (get_lt hi)
  have hf := S2.at he
  refine .inl ⟨⟨hf, Nat.le_refl _⟩, hf, ?_⟩
  have S3 := S2.upd he (o' := .dK []) (fun _ z => nomatch z)
  have e3 : (At D (.dK []) :: l.set e (At p (.frz od (.dK [])))).set (e + 1) (At p (.dK [])) = At D (.dK []) :: l := by
    show At D (.dK []) :: (l.set e _).set e _ = _
    rw [List.set_set, set_same hi]
  rw [e3] at S3
  exact k D _ S3
theorem num_at : ∀ {m : List (Str × Int)} {x : Str × Int}, (keys m).Nodup → x ∈ m → num m x.1 = x.2
  | [], _, _, h => nomatch h
  | y :: m, x, hn, h => by
    have hn' := List.nodup_cons.1 hn
    show (if y.1 = x.1 then y.2 else num m x.1) = x.2
    rcases List.mem_cons.1 h with rfl | h
    · rw [if_pos rfl]
    · rw [if_neg (fun z => hn'.1 (show y.1 ∈ keys m by rw [z]; exact List.mem_map_of_mem h))]
      exact num_at hn'.2 h
theorem filt_put {qs : List (Str × Int)} {w : Str} {n : Int} (h : w ∉ keys qs) : mput qs w n = qs ++ [(w, n)] := by
  induction qs with
  | nil => rfl
  | cons x qs ih =>
    have hx : ¬ x.1 = w := fun z => h (by rw [← z]; exact List.mem_cons_self)
    unfold mput
    rw [if_neg hx, ih fun z => h (List.mem_cons_of_mem _ z)]
    rfl
theorem not_take {α : Type} [DecidableEq α] {l : List α} {i : Nat} {x : α} (hn : l.Nodup) (h : l[i]? = some x) : x ∉ l.take i := by
  intro z
  obtain ⟨j, hj⟩ := List.mem_iff_getElem?.1 z
  have hji := get_lt hj
  rw [List.length_take] at hji
  rw [List.getElem?_take] at hj
  split at hj
  · have := (List.getElem?_inj (by have := get_lt h; omega) hn).1 (hj.trans h.symm)
    omega
  · cases hj
abbrev nz (ps : List (Str × Int)) : List (Str × Int) := ps.filter fun x => decide (x.2 ≠ 0)
theorem nz_nodup {ps : List (Str × Int)} (hn : (keys ps).Nodup) : (keys (nz ps)).Nodup := List.Nodup.sublist (List.Sublist.map _ List.filter_sublist) hn
theorem nz_turn {ps : List (Str × Int)} {i : Nat} {y : Str × Int} (hn : (keys ps).Nodup) (h : ps[i]? = some y) : (y.2 ≠ 0 → nz (ps.take (i + 1)) = mput (nz (ps.take i)) y.1 y.2) ∧ (y.2 = 0 → nz (ps.take (i + 1)) = nz (ps.take i)) := by
  have hk : (keys ps)[i]? = some y.1 := by unfold keys; rw [List.getElem?_map, h]; rfl
  have hni : y.1 ∉ keys (nz (ps.take i)) := fun z => by
    obtain ⟨x, hx, e⟩ := List.mem_map.1 z
    have hx' := (List.mem_filter.1 hx).1
    refine not_take hn hk ?_
    unfold keys
    rw [← List.map_take]
    exact List.mem_map.2 ⟨x, hx', e⟩
  constructor
  · intro hy
    rw [filt_put hni]
    unfold nz
    rw [take_snoc h, List.filter_append, List.filter_cons, if_pos (decide_eq_true hy)]
    rfl
  · intro hy
    unfold nz
    rw [take_snoc h, List.filter_append, List.filter_cons, if_neg (by rw [decide_eq_false (fun z => z hy)]; exact Bool.false_ne_true), List.filter_nil, List.append_nil]
theorem nz_good {ps : List (Str × Int)} (hn : (keys ps).Nodup) (hw : ∀ x ∈ ps, Wd x.1) (hz : ps.length ≤ 500) : Good (nz ps) :=
  ⟨nz_nodup hn, fun x hx => ⟨of_decide_eq_true (List.mem_filter.1 hx).2, hw x (List.mem_filter.1 hx).1⟩, Nat.le_trans (List.length_filter_le _ _) hz⟩
theorem filt_num {ps : List (Str × Int)} (hn : (keys ps).Nodup) : num (ps.filter fun x => decide (x.2 ≠ 0)) = num ps := by
  induction ps with
  | nil => rfl
  | cons x ps ih =>
    have hn' := List.nodup_cons.1 hn
    have ih := ih hn'.2
    funext w
    by_cases hx : x.2 ≠ 0
    · rw [List.filter_cons, if_pos (decide_eq_true hx)]
      show (if x.1 = w then x.2 else num _ w) = if x.1 = w then x.2 else num ps w
      rw [ih]
    · rw [List.filter_cons, if_neg (by rw [decide_eq_false hx]; exact Bool.false_ne_true), ih]
      show num ps w = if x.1 = w then x.2 else num ps w
      by_cases hw : x.1 = w
      · rw [if_pos hw]
        have h0 : x.2 = 0 := Classical.byContradiction hx
        rw [h0]
        exact num_none fun z => hn'.1 (show x.1 ∈ keys ps by rw [hw]; exact z)
      · rw [if_neg hw]

/-! pairs: equality, a dict's items as a list; isinstance of lists -/
section
variable {K : PySem.W.Frag} {H H' : Hp} {Q : VK} {l : List Asn} {p d : Addr} {xs : List V} {m : List (Str × Int)}
theorem i_LT {e f : Nat} {q : Addr} (S : Sep l H) (hi : l[e]? = some (At p (.lst xs))) (hj : l[f]? = some (Tp q [.ty "list", .ty "tuple"])) (k : Q (.bl true) H) : gIsi K [.ref p, .ref q] H Q :=
  .inr ⟨.ref p, q, [.ty "list", .ty "tuple"], .type "list", [.type "list", .type "tuple"], true, rfl, S.tp hj, .cons (.ty _) (.cons (.ty _) .nil), .base (.lst (S.at hi)), (by unfold PySem.W.kitAny; rw [kit_ty k_ll]), k⟩
theorem Sep.grow {o : HO} (S : Sep l H) (hk : ∀ b o, H b = some o → H' b = some o) (hp : H p = none) (h' : H' p = some o) : Sep (At p o :: l) H' := by
  obtain ⟨g, S⟩ := S
  have S' := S.st (H' := H') (fun a z => by obtain ⟨o, e⟩ := S.al a z; rw [hk _ _ e, e]) (fun b xs e => hk _ _ e)
  refine ⟨_, .cons ⟨h', fun a => Iff.rfl⟩ S' fun a z q => ?_⟩
  cases z
  obtain ⟨o, e⟩ := S.al _ q
  rw [hp] at e; cases e
theorem paired_mp : ∀ {m : List (Str × Int)} {ts : List Addr}, Paired (fun (t : Addr) (q : Key × V) => H t = some (.tup [kV q.1, q.2])) ts (mp m) → IsDs H (ts.map V.ref) (pds m)
  | [], _, .nil => .nil
  | (w, n) :: m, _, .cons h r => .cons (pair_isD h) (paired_mp r)
theorem li_items {e : Nat} (S : Sep l H) (hi : l[e]? = some (At d (.dK (mp m)))) (k : ∀ p H', Sep (LD p (pds m) :: l) H' → Q (.ref p) H') : LiI.rItemsL (.ref d) H Q :=
  ⟨d, mp m, rfl, S.at hi, fun H' p ts hk hp _ _ hl hq => k p H' (ld_close (paired_mp hq) (S.grow hk hp hl))⟩
theorem r_listItems {σ : L2.St} {te : TE} (q : te σ H fun x H1 => LiI.rItemsL x H1 Q) : LiI.tListItems te σ H Q := q
end
local macro_rules | `(tactic| walk_at "v1") => `(tactic| (first
  | with_reducible refine r_listItems ?_
  | ((with_reducible refine' li_items (by assumption) ?hi ?_); (case hi => walk_at "has"); intro _ _ _)))
theorem eqv_pds : ∀ L M : List (Str × Int), PyData.eqvAll (pds L) (pds M) = decide (L = M)
  | [], [] => by simp [PyData.eqvAll]
  | [], _ :: _ => by simp [PyData.eqvAll]
  | _ :: _, [] => by simp [PyData.eqvAll]
  | (a, n) :: ws, (b, m) :: us => by
    show PyData.eqvAll (pd (a, n) :: pds ws) (pd (b, m) :: pds us) = _
    rw [PyData.eqvAll, eqv_pds ws us]
    show (PyData.eqv (.tuple [.str a, .int n]) (.tuple [.str b, .int m]) && _) = _
    rw [PyData.eqv, PyData.eqvAll, PyData.eqvAll, PyData.eqvAll, PyData.eqv, PyData.eqv]
    by_cases h : a = b
    · by_cases h2 : n = m
      · by_cases h3 : ws = us <;> simp [h, h2, h3, Prod.ext_iff]
      · simp [h, h2, Prod.ext_iff]
    · simp [h, Prod.ext_iff]
theorem lay_pds {L : List (Str × Int)} (h : ∀ x ∈ L, Wd x.1) : PyData.canLayAll0 (pds L) = true ∧ PyData.depthAll (pds L) ≤ 1 := by
  induction L with
  | nil => exact ⟨rfl, Nat.zero_le _⟩
  | cons x L ih =>
    obtain ⟨i1, i2⟩ := ih fun y hy => h y (List.mem_cons_of_mem _ hy)
    have hs := strOk_word (h x List.mem_cons_self)
    show PyData.canLayAll0 (.tuple [.str x.1, .int x.2] :: pds L) = true ∧ PyData.depthAll (.tuple [.str x.1, .int x.2] :: pds L) ≤ 1
    refine ⟨by simp [PyData.canLayAll0, PyData.canLay0, hs, i1], by simp [PyData.depthAll, PyData.depth, i2]⟩
theorem shaped_pds {L : List (Str × Int)} (h : ∀ x ∈ L, Wd x.1) : SeqAt.shaped (.list (pds L)) = true := by
  obtain ⟨h1, h2⟩ := lay_pds h
  unfold SeqAt.shaped
  rw [PyData.canLay0, h1, PyData.depth]
  simp; omega
section
variable {l : List Asn} {H : Hp} {p p2 : Addr} {K : PySem.W.Frag} {Q : VK} {e e2 : Nat} {L M : List (Str × Int)}
theorem eq_pds (S : Sep l H) (hi : l[e]? = some (LD p (pds L))) (hj : l[e2]? = some (LD p2 (pds M))) (h1 : ∀ x ∈ L, Wd x.1) (h2 : ∀ x ∈ M, Wd x.1) (q : Q (.bl (decide (L = M))) H) : gEq K (.ref p) (.ref p2) H Q :=
  .inr ⟨.list (pds L), .list (pds M), ld_dp S hi, ld_dp S hj, shaped_pds h1, shaped_pds h2, by rw [PyData.eqv, eqv_pds]; exact q⟩
theorem ne_pds (S : Sep l H) (hi : l[e]? = some (LD p (pds L))) (hj : l[e2]? = some (LD p2 (pds M))) (h1 : ∀ x ∈ L, Wd x.1) (h2 : ∀ x ∈ M, Wd x.1) (q : Q (.bl (!decide (L = M))) H) : gNe K (.ref p) (.ref p2) H Q :=
  .inr ⟨.list (pds L), .list (pds M), ld_dp S hi, ld_dp S hj, shaped_pds h1, shaped_pds h2, by rw [PyData.eqv, eqv_pds]; exact q⟩
/-- .. is a list -/
theorem i_LD {ds : List PyData} {T : String} {b : Bool} (S : Sep l H) (hi : l[e]? = some (LD p ds)) (h : kitB "list" T = some b) (q : Q (.bl b) H) : gIsi K [.ref p, .ty T] H Q := by
  obtain ⟨vs, _, S1⟩ := ld_open (S.pick hi)
  exact i_ty (.base (.lst (S1.at (i := 0) rfl))) h q
end
local macro_rules | `(tactic| walk_at "v1") => `(tactic| ((with_reducible refine' i_LD (by assumption) ?hi ?h ?_); (case hi => walk_at "has"); (case h => (first | exact k_ll | exact k_lt | exact k_li | exact k_ls))))

/-! own operators of instances with a dict -/
section
variable {X : Cx} {CX : CXT} {n : Nat} {f C : Addr} {sp : Sp} {E : XK} {m : Str}
theorem ins_inst {pins : List (Addr × Obj)} {s : Shared} {σ : L2.St} {H : Hp} {a C dx : Addr} {fs : List (Str × V)} (I : L2.Inv X pins σ H s) (e : H a = some (.ins C dx fs)) : ∃ ox od, PySem.W.InstAt s.heap a ox C od := by
  obtain ⟨mA, O, _⟩ := ins_get I.hok e
  obtain ⟨od, J, _⟩ := O.look
  exact ⟨_, _, J⟩
/-- o[i] = v -/
def rSetOwn (C : Addr) (sp : Sp) (E : XK) : TSet := fun o i v H Q => ∃ a dx fs, o = V.ref a ∧ H a = some (.ins C dx fs) ∧ sp [V.ref a, i, v] H (fun _ H' => Q H') E
theorem set_own (hn : PySem.W.noSeq X.K C = true) (hm : Meth X.K C (Str.ofString "__setitem__") f) (F : FnR X.prog X.w X.K X.mg X.base CX n f sp) (hr : Room n X.A) (hx : Passes CX X E) : PSet X (rSetOwn C sp E) := by
  intro pins s σ H o i v ov iv u Q I ro ri rv h
  obtain ⟨a, dx, fs, rfl, ha, q⟩ := h
  cases (show ov = Value.ref a from ro)
  obtain ⟨ox, od, J⟩ := ins_inst I ha
  obtain ⟨m, hF⟩ := I.fr
  refine PySem.W.ksp_setItem hF I.ok.mod.kin J hn hm.at_ hm.fn ?_
  refine wpAny_mono (wpAny_call (run_fnR (us := [.ref a, iv, u]) (vs := [.ref a, i, v]) F hr hx I (.cons rfl (.cons ri (.cons rv .nil))) q)) (fun w s' z => ?_) fun _ _ x => x
  obtain ⟨z', H', I', rz, qz⟩ := z
  exact ⟨H', I', qz⟩
/-- len(o) -/
def rLenOwn (C : Addr) (sp : Sp) (E : XK) : List V → Hp → VK → Prop := fun xs H Q => ∃ a dx fs, xs = [V.ref a] ∧ H a = some (.ins C dx fs) ∧ sp [V.ref a] H (fun z H' => ∃ i : Int, z = .int i ∧ 0 ≤ i ∧ i < 2 ^ 63 ∧ Q z H') E
theorem call_ownLen (hm : Meth X.K C (Str.ofString "__len__") f) (F : FnR X.prog X.w X.K X.mg X.base CX n f sp) (hr : Room (n + 1) X.A) (hx : Passes CX X E) : CallR X (.builtin "len") (rLenOwn C sp E) := by
  intro pins s σ H xs us Q I r h
  obtain ⟨a, dx, fs, rfl, ha, q⟩ := h
  obtain ⟨u, rfl, ru⟩ := r.one
  cases (show u = Value.ref a from ru)
  obtain ⟨ox, od, J⟩ := ins_inst I ha
  obtain ⟨m, hF⟩ := I.fr
  refine PySem.W.len_K hF I.ok.mod.kin J hm.at_ hm.fn ?_
  refine wpAny_mono (wpAny_call (SlX.run_at (us := [.ref a]) (ws := [.ref a]) F (show Room n X.A.in1 from Room.in1 hr) I.env0.in1 hx I (.cons rfl .nil) q)) (fun w s' z => ?_) fun _ _ x => x
  obtain ⟨z', H', I', rz, i, ei, h0, h1, qz⟩ := z
  subst ei
  obtain ⟨t, e⟩ := (show ∃ t, w = Value.int i t from rz)
  cases e
  exact ⟨⟨h0, h1⟩, .int i, H', I'.tok _, ⟨_, rfl⟩, qz⟩
/-- x op y, both instances of C -/
def rBinOwn (C : Addr) (sp : Sp) (E : XK) : R2 := fun x y H Q => ∃ a dx fs b dy gs, x = V.ref a ∧ y = V.ref b ∧ H a = some (.ins C dx fs) ∧ H b = some (.ins C dy gs) ∧ sp [x, y] H Q E
theorem op_ownBin {op : Operator} (hm : Meth X.K C (PySem.dunder op.info.2) f) (hs : PySem.W.selfFirst X.K C = true) (F : FnR X.prog X.w X.K X.mg X.base CX n f sp) (hr : Room n X.A) (hx : Passes CX X E) : OpR X (binaryOp op) (rBinOwn C sp E) := by
  intro pins s σ H x y v u Q I rx ry h
  obtain ⟨a, dx, fs, b, dy, gs, rfl, rfl, ha, hb, q⟩ := h
  cases (show v = Value.ref a from rx)
  cases (show u = Value.ref b from ry)
  obtain ⟨ox, od, J⟩ := ins_inst I ha
  obtain ⟨ox', od', J'⟩ := ins_inst I hb
  obtain ⟨m, hF⟩ := I.fr
  refine PySem.W.binop_K hF I.ok.mod.kin J J'.type hs hm.at_ hm.fn ?_
  refine wpAny_mono (wpAny_call (run_fnR (us := [.ref a, .ref b]) (vs := [.ref a, .ref b]) F hr hx I (.cons rfl (.cons rfl .nil)) q)) (fun w s' z => ?_) fun _ _ x => x
  obtain ⟨z', H', I', rz, qz⟩ := z
  exact SlX.cmpback rz ⟨z', H', I', rz, qz⟩
theorem op_ownCmp {op : CmpOp} (hop : ∀ a b, compareOp op a b = richCompare op a b) (hm : Meth X.K C (cmpInfo op).2.1 f) (hs : PySem.W.notFirst X.K C (.ref C) = true) (F : FnR X.prog X.w X.K X.mg X.base CX n f sp) (hr : Room n X.A) (hx : Passes CX X E) : OpR X (compareOp op) (rBinOwn C sp E) := by
  intro pins s σ H x y v u Q I rx ry h
  obtain ⟨a, dx, fs, b, dy, gs, rfl, rfl, ha, hb, q⟩ := h
  cases (show v = Value.ref a from rx)
  cases (show u = Value.ref b from ry)
  obtain ⟨ox, od, J⟩ := ins_inst I ha
  obtain ⟨ox', od', J'⟩ := ins_inst I hb
  obtain ⟨m, hF⟩ := I.fr
  rw [hop]
  refine PySem.W.cmp_K (op := op) (tb := .ref C) hr.units0 hF I.ok.mod.kin J J'.type hs hm.at_ hm.fn ?_
  refine wpAny_mono (wpAny_call (run_fnR (us := [.ref a, .ref b]) (vs := [.ref a, .ref b]) F hr hx I (.cons rfl (.cons rfl .nil)) q)) (fun w s' z => ?_) fun _ _ x => x
  obtain ⟨z', H', I', rz, qz⟩ := z
  exact SlX.cmpback rz ⟨z', H', I', rz, qz⟩
end
/-! sum(d.values()) -/
/-- sum(o.values()), a dict with int values -/
def tSumVals (td : TE) : TE := fun σ H Q => td σ H fun x H1 => ∃ (a : Addr) (kvs : List (Key × V)) (is : List Int), x = V.ref a ∧ H1 a = some (.dK kvs) ∧ kvs.map (·.2) = is.map V.int ∧ Q (.int is.sum) H1
section
open PyProof PyProof.Rows PyProof.V PySem.Spec PySem.Calls
theorem preSum_take (is : List Int) : ∀ j, preSum (fun i => is.getD i 0) j = (is.take j).sum
  | 0 => by simp [preSum]
  | j + 1 => by
    rw [preSum, preSum_take is j, List.getD_eq_getElem?_getD, List.take_add_one]
    cases is[j]? <;> simp
variable {X : Cx} {o : Expr} {p pos apos mpos : Pos} {td : TE}
theorem pe_sumVals (hc : X.calm = true) (hg : Gl X "sum") (hm : X.mg "sum" = none) (hd : PE X o td) (hbase : attributeBase o "values" X.env (eval o X.env) = eval o X.env := by rfl) (hline : (apos.endLine == mpos.line) = true := by rfl)
    (hse : starEach [Expr.Call (.Attribute o "values" apos) [] [] mpos] X.env = [(false, eval (Expr.Call (.Attribute o "values" apos) [] [] mpos) X.env)] := by rfl) :
    PE X (.Call (.Name "sum" p) [.Call (.Attribute o "values" apos) [] [] mpos] [] pos) (tSumVals td) := by
  refine ⟨fun pins s σ H Q I h => ?_⟩
  refine wpAny_Call_Name_kw (ld_blt I hg hm (u := .builtin "sum") (by first | rfl | decide +kernel) ?_ (by first | decide +kernel | decide) (by first | decide +kernel | decide))
  rw [hse]
  refine PySem.callWith_builtin1 (wpAny_Call_method0_late hbase hline (thn (hd.run pins s σ H _ I h) fun v s1 ⟨x, H1, I1, r1, a, kvs, is, ex, ha, hv, q⟩ => ?_))
  subst ex
  obtain rfl : v = Value.ref a := r1
  obtain ⟨_, hsys, vs, rel, dof⟩ := dk_of I1.hok ha
  obtain ⟨ep, dat⟩ := dof.dictAt
  have dat' := dat
  obtain ⟨ob, es, ho, ex, hdat, hko, hpr, hnd⟩ := dat'
  refine ⟨"dict", "dict.values", F.plainAttrs_dict, F.slot_dict_values, F.type_dict_values, ⟨ob, ho, ex.1⟩, fun b e => ?_, Calls.callWith_builtin rfl (PySem.evalArgs_none ?_)⟩
  · cases e
    exact ⟨ob, ho, ex.2.1⟩
  refine call_meetsIn F.slot_dict_values ⟨ob, ho, ex.1⟩ F.entry_dict_values (F.args_dict_values_1 _) (meets_dict_values (mixKind X.prog X.w) a hsys) ⟨⟨vs, dof⟩, ?_⟩
  have k1 : ∀ b u, s1.heap.get? b = some u → (s1.heap.push { cls := .type "dict_values", data := .fields #[.ref a] }).get? b = some u := fun b u e => Heap.get?_push_of_some _ e
  have dat1 : (s1.heap.push { cls := .type "dict_values", data := .fields #[.ref a] }).DictAt (mixKind X.prog X.w) a vs ep := dat.keep k1
  have hlv : vs.length = is.length := by
    have e1 := congrArg List.length hv
    rw [List.length_map, List.length_map] at e1
    rw [← e1]
    exact (KV.length rel).symm
  have hval : ∀ (i : Nat) (v : Value), (∃ k, vs[i]? = some (k, v)) → ∃ t, v = Value.int (is.getD i 0) t := fun i v ⟨k, hk⟩ => by
    obtain ⟨x, h1, h2⟩ := KV.at' rel hk
    have e1 : (kvs.map (·.2))[i]? = some x := by rw [List.getElem?_map, h1] <;> rfl
    rw [hv, List.getElem?_map] at e1
    obtain ⟨j, hj, e2⟩ := Option.map_eq_some_iff.mp e1
    subst e2
    obtain ⟨t, e3⟩ := h2
    refine ⟨t, ?_⟩
    rw [e3, List.getD_eq_getElem?_getD, hj] <;> rfl
  have hlt : a < s1.heap.objs.size := Heap.lt_size ho
  have hsz : (s1.heap.push { cls := .type "dict_values", data := .fields #[.ref a] }).objs.size = s1.heap.objs.size + 1 := Heap.size_push _ _
  refine call_sum_walkAnyS (wpAny_pyIter_values (v := s1.heap.objs.size) (d := a) ⟨_, Heap.get?_push_size _ rfl, rfl, rfl⟩ dat1 ?_)
  refine ⟨_, _, _, _, vs.length, _, _, fun i => is.getD i 0, rfl, (Walks.dictValues (knd := mixKind X.prog X.w) (A := X.A.in1) (I.ok.hd hc) (s1.heap.push { cls := .type "dict_values", data := .fields #[.ref a] }).objs.size a (by rw [hsz]; exact Nat.ne_of_lt (Nat.lt_succ_of_lt hlt)) vs ep).toS,
    ⟨⟨_, Heap.get?_push_size _ rfl, rfl, rfl⟩, dat1.keep fun b u e => Heap.get?_push_of_some _ e⟩, fun b hb => ?_, hval, fun s' t' hmv => ?_⟩
  · show b < ((s1.heap.push _).push _).objs.size
    rw [Heap.size_push, Heap.size_push]
    rw [hsz] at hb
    rcases List.mem_cons.mp hb with e | hb
    · rw [e]
      exact Nat.lt_succ_self _
    · have e : b = a := List.mem_singleton.mp hb
      rw [e]
      exact Nat.lt_succ_of_lt (Nat.lt_succ_of_lt hlt)
  · have hk : ∀ b u, s1.heap.get? b = some u → s'.heap.get? b = some u := fun b u e => hmv.heap b u (fun hmem => by
      have e1 : b = (s1.heap.push { cls := .type "dict_values", data := .fields #[.ref a] }).objs.size := List.mem_singleton.mp hmem
      have e2 := Heap.lt_size e
      rw [hsz] at e1
      rw [e1] at e2
      exact absurd e2 (Nat.not_lt.mpr (Nat.le_succ _))) (Heap.get?_push_of_some _ (k1 b u e))
    rw [Moved.eq_with hmv]
    refine ⟨.int _, H1, I1.kept (t' := s'.toks) hk, ⟨t', rfl⟩, ?_⟩
    rw [preSum_take, hlv, List.take_length]
    exact q
end
/-! steps -/
def gSumV (x : V) (H : Hp) (Q : VK) : Prop := ∃ (a : Addr) (kvs : List (Key × V)) (is : List Int), x = V.ref a ∧ H a = some (.dK kvs) ∧ kvs.map (·.2) = is.map V.int ∧ Q (.int is.sum) H
def gIns (C : Addr) (x : V) (H : Hp) (R : Prop) : Prop := ∃ a dx fs, x = V.ref a ∧ H a = some (.ins C dx fs) ∧ R
section
variable {l : List Asn} {H : Hp} {σ : L2.St} {td ta : TE} {Q : VK} {d p C : Addr} {m : List (Str × Int)} {g : Str → Int} {sp : Sp} {E : XK} {dvs : List V} {e : Nat}
theorem r_sumVals (q : td σ H fun x H1 => gSumV x H1 Q) : tSumVals td σ H Q := q
theorem sum_mp (S : Sep l H) (hi : l[e]? = some (At d (.dK (mp m)))) (q : Q (.int (m.map (·.2)).sum) H) : gSumV (.ref d) H Q := ⟨d, mp m, m.map (·.2), rfl, S.at hi, by rw [List.map_map, List.map_map]; rfl, q⟩
theorem r_prop (q : ta σ H fun x H1 => gIns C x H1 (sp (x :: dvs) H1 Q E)) : tProp C sp dvs E ta σ H Q := by
  have e : (fun (x : V) (H1 : Hp) => ∃ a dx fs, x = V.ref a ∧ H1 a = some (.ins C dx fs) ∧ sp (V.ref a :: dvs) H1 Q E) = fun x H1 => gIns C x H1 (sp (x :: dvs) H1 Q E) :=
    funext fun x => funext fun H1 => propext ⟨fun ⟨a, dx, fs, e, h, q⟩ => ⟨a, dx, fs, e, h, e ▸ q⟩, fun ⟨a, dx, fs, e, h, q⟩ => ⟨a, dx, fs, e, h, e ▸ q⟩⟩
  show ta σ H (fun (x : V) (H1 : Hp) => ∃ a dx fs, x = V.ref a ∧ H1 a = some (.ins C dx fs) ∧ sp (V.ref a :: dvs) H1 Q E)
  rw [e]; exact q
theorem ins_co (S : Sep l H) (hi : l[e]? = some (Co p C g)) : ∃ dx fs, H p = some (.ins C dx fs) := by
  obtain ⟨d, m, _, _, S1⟩ := co_open (S.pick hi)
  obtain ⟨dx, h⟩ := ob_at S1 (e := 0) rfl
  exact ⟨dx, _, h⟩
theorem gi_co {R : Prop} (S : Sep l H) (hi : l[e]? = some (Co p C g)) (q : R) : gIns C (.ref p) H R := by
  obtain ⟨dx, fs, h⟩ := ins_co S hi
  exact ⟨p, dx, fs, rfl, h, q⟩
theorem s_co {i v : V} {N : Hp → Prop} (S : Sep l H) (hi : l[e]? = some (Co p C g)) (q : sp [.ref p, i, v] H (fun _ H' => N H') E) : rSetOwn C sp E (.ref p) i v H N := by
  obtain ⟨dx, fs, h⟩ := ins_co S hi
  exact ⟨p, dx, fs, rfl, h, q⟩
end
local macro_rules | `(tactic| walk_at "v1") => `(tactic| (first
  | with_reducible refine r_sumVals ?_
  | with_reducible refine r_prop ?_
  | ((with_reducible refine' sum_mp (by assumption) ?hi ?_); (case hi => walk_at "has"))
  | ((with_reducible refine' gi_co (by assumption) ?hi ?_); (case hi => walk_at "has"))
  | ((with_reducible refine' s_co (by assumption) ?hi ?_); (case hi => walk_at "has"))))

/-! dicts of words and numbers compared, listed, joined; own operators walked -/
/-! ### d == e -/
def mpEq (m1 m2 : List (Str × Int)) : Bool := (m1.length == m2.length) && m1.all fun x => decide (x.1 ∈ keys m2) && (x.2 == num m2 x.1)
theorem hits_mp {A : Around} {s : Shared} {m2 : List (Str × Int)} {vb : List (Key × Value)} (rb : KV (mp m2) vb) : ∀ (m1 : List (Str × Int)) {va : List (Key × Value)}, KV (mp m1) va →
    PySem.W.KeqHits A s vb va (m1.all fun x => decide (x.1 ∈ keys m2) && (x.2 == num m2 x.1))
  | [], va, ra => by
    unfold KV at ra
    cases ra
    exact .nil
  | x :: m1, va, ra => by
    unfold KV at ra
    cases ra with
    | @cons p q ps qs h t =>
      obtain ⟨h1, h2⟩ := h
      obtain ⟨k, v⟩ := q
      have h1' : (Sum.inr x.1 : Key) = k := h1
      subst h1'
      have ih := hits_mp (A := A) (s := s) rb m1 t
      have rr : RelO (valV (mp m2) (Sum.inr x.1 : Key)) (valueAt vb (Sum.inr x.1)) := rb.val (Sum.inr x.1)
      rw [val_mp] at rr
      show PySem.W.KeqHits A s vb ((Sum.inr x.1, v) :: qs) ((decide (x.1 ∈ keys m2) && (x.2 == num m2 x.1)) && m1.all fun x => decide (x.1 ∈ keys m2) && (x.2 == num m2 x.1))
      by_cases hk : x.1 ∈ keys m2
      · rw [if_pos hk] at rr
        obtain ⟨y, hy, ry⟩ := rr.some_of
        obtain ⟨t1, e1⟩ := (show ∃ t, v = Value.int x.2 t from h2)
        obtain ⟨t2, e2⟩ := (show ∃ t, y = Value.int (num m2 x.1) t from ry)
        subst e1; subst e2
        rw [decide_eq_true hk, Bool.true_and]
        exact .hit hy (SeqAt.EqAt.int_int _ _ _ _) ih
      · rw [if_neg hk] at rr
        rw [decide_eq_false hk, Bool.false_and, Bool.false_and]
        refine .miss ?_
        cases hv : valueAt vb (Sum.inr x.1) with
        | none => rfl
        | some y => rw [hv] at rr; exact rr.elim
section
variable {X : Cx}
def rEqMp (neg : Bool) : R2 := fun x y H Q => ∃ a b m1 m2, x = .ref a ∧ y = .ref b ∧ H a = some (.dK (mp m1)) ∧ H b = some (.dK (mp m2)) ∧ Q (.bl (if neg then !(mpEq m1 m2) else mpEq m1 m2)) H
theorem op_eqMp (hu : X.A.units < cLine) : OpR X (compareOp .Eq) (rEqMp false) := by
  intro pins s σ H x y v u Q I rx ry h
  obtain ⟨a, b, m1, m2, rfl, rfl, ea, eb, q⟩ := h
  obtain rfl : v = Value.ref a := rx
  obtain rfl : u = Value.ref b := ry
  obtain ⟨_, ya, va, ra, da⟩ := (show ObjOk X.prog X.w H s.heap a (.dK (mp m1)) from I.hok a _ ea)
  obtain ⟨_, yb, vb, rb, db⟩ := (show ObjOk X.prog X.w H s.heap b (.dK (mp m2)) from I.hok b _ eb)
  have hl1 : va.length = m1.length := by rw [← ra.length, List.length_map]
  have hl2 : vb.length = m2.length := by rw [← rb.length, List.length_map]
  exact PySem.W.keq_eq (knd := mixKind X.prog X.w) ya yb da db hu (fun _ => hits_mp rb m1 ra) (fin_bl I q (by rw [hl1, hl2]; rfl))
theorem op_neMp (hu : X.A.units < cLine) : OpR X (compareOp .NotEq) (rEqMp true) := by
  intro pins s σ H x y v u Q I rx ry h
  obtain ⟨a, b, m1, m2, rfl, rfl, ea, eb, q⟩ := h
  obtain rfl : v = Value.ref a := rx
  obtain rfl : u = Value.ref b := ry
  obtain ⟨_, ya, va, ra, da⟩ := (show ObjOk X.prog X.w H s.heap a (.dK (mp m1)) from I.hok a _ ea)
  obtain ⟨_, yb, vb, rb, db⟩ := (show ObjOk X.prog X.w H s.heap b (.dK (mp m2)) from I.hok b _ eb)
  have hl1 : va.length = m1.length := by rw [← ra.length, List.length_map]
  have hl2 : vb.length = m2.length := by rw [← rb.length, List.length_map]
  exact PySem.W.keq_ne (knd := mixKind X.prog X.w) ya yb da db hu (fun _ => hits_mp rb m1 ra) (fin_bl I q (by rw [hl1, hl2]; rfl))
end
theorem good_val {m : List (Str × Int)} (h : Good m) {w : Str} (hw : w ∈ keys m) : num m w ≠ 0 := by
  have hx := key_num h.1 hw
  exact (h.2.1 _ hx).1
theorem good_mem {m : List (Str × Int)} (h : Good m) {w : Str} : w ∈ keys m ↔ num m w ≠ 0 :=
  ⟨good_val h, fun z => Classical.byContradiction fun y => z (num_none y)⟩
theorem good_eq {m1 m2 : List (Str × Int)} (h1 : Good m1) (h2 : Good m2) : mpEq m1 m2 = true ↔ num m1 = num m2 := by
  constructor
  · intro hh
    unfold mpEq at hh
    simp only [Bool.and_eq_true, beq_iff_eq, List.all_eq_true, decide_eq_true_eq] at hh
    obtain ⟨hl, ha⟩ := hh
    funext w
    have hs : ∀ w, w ∈ keys m2 → w ∈ keys m1 := by
      intro w hw
      refine Classical.byContradiction fun z => ?_
      have hn : (w :: keys m1).Nodup := List.nodup_cons.2 ⟨z, h1.1⟩
      have := nodup_le hn (m := keys m2) fun x hx => by
        rcases List.mem_cons.1 hx with rfl | hx
        · exact hw
        · obtain ⟨y, hy, ey⟩ := List.mem_map.1 hx
          rw [← ey]
          exact (ha y hy).1
      unfold keys at this
      simp only [List.length_cons, List.length_map] at this
      omega
    by_cases hw : w ∈ keys m1
    · obtain ⟨y, hy, ey⟩ := List.mem_map.1 hw
      rw [← show y.1 = w from ey, num_at h1.1 hy]
      exact (ha y hy).2
    · rw [num_none hw, num_none fun z => hw (hs w z)]
  · intro e
    have hk : ∀ w, w ∈ keys m1 ↔ w ∈ keys m2 := fun w => by rw [good_mem h1, good_mem h2, e]
    have hl : m1.length = m2.length := by
      have a := nodup_le h1.1 (m := keys m2) fun x hx => (hk x).1 hx
      have b := nodup_le h2.1 (m := keys m1) fun x hx => (hk x).2 hx
      unfold keys at a b
      rw [List.length_map, List.length_map] at a b
      omega
    unfold mpEq
    rw [hl, beq_self_eq_true, Bool.true_and, List.all_eq_true]
    intro x hx
    rw [decide_eq_true ((hk x.1).1 (List.mem_map_of_mem hx)), Bool.true_and, ← e, num_at h1.1 hx]
    exact beq_self_eq_true _
/-! ### list(d) -/
def gListD (xs : List V) (H : Hp) (Q : VK) : Prop := ∃ (a : Addr) (kvs : List (Key × V)), xs = [.ref a] ∧ Rd H a (.dK kvs) ∧ ∀ p, H p = Option.none → Q (.ref p) (upd H p (.lst (kvs.map fun kv => kV kv.1)))
theorem call_gListD {X : Cx} (hc : X.calm = true) : CallR X (.type "list") gListD := call_listD hc
section
variable {l : List Asn} {H : Hp} {d : Addr} {m : List (Str × Int)} {e : Nat} {Q : VK} {a b : Addr} {m1 m2 : List (Str × Int)} {e2 : Nat}
theorem kv_mp (m : List (Str × Int)) : ((mp m).map fun kv => kV kv.1) = (keys m).map V.str := by
  unfold keys
  rw [List.map_map, List.map_map]
  exact List.map_congr_left fun _ _ => rfl
theorem ld_mp (S : Sep l H) (hi : l[e]? = some (At d (.dK (mp m)))) (k : ∀ p H', Sep (At p (.lst ((keys m).map V.str)) :: l) H' → Q (.ref p) H') : gListD [.ref d] H Q :=
  ⟨d, mp m, rfl, .inl (S.at hi), fun p hp => by rw [kv_mp]; exact k p _ (S.new hp)⟩
theorem eq_mp (S : Sep l H) (hi : l[e]? = some (At a (.dK (mp m1)))) (hj : l[e2]? = some (At b (.dK (mp m2)))) (q : Q (.bl (mpEq m1 m2)) H) : rEqMp false (.ref a) (.ref b) H Q :=
  ⟨a, b, m1, m2, rfl, rfl, S.at hi, S.at hj, q⟩
theorem ne_mp (S : Sep l H) (hi : l[e]? = some (At a (.dK (mp m1)))) (hj : l[e2]? = some (At b (.dK (mp m2)))) (q : Q (.bl (!(mpEq m1 m2))) H) : rEqMp true (.ref a) (.ref b) H Q :=
  ⟨a, b, m1, m2, rfl, rfl, S.at hi, S.at hj, q⟩
end
local macro_rules | `(tactic| walk_at "v1") => `(tactic| (first
  | ((with_reducible refine' ld_mp (by assumption) ?hi ?_); (case hi => walk_at "has"); intro _ _ _)
  | ((with_reducible refine' eq_mp (by assumption) ?hi ?hj ?_); (case hi => walk_at "has"); (case hj => walk_at "has"))
  | ((with_reducible refine' ne_mp (by assumption) ?hi ?hj ?_); (case hi => walk_at "has"); (case hj => walk_at "has"))))
/-! ### a op b, own -/
section
variable {l : List Asn} {H : Hp} {C p q : Addr} {g h : Str → Int} {sp : Sp} {E : XK} {Q : VK} {e e2 : Nat}
theorem b_co (S : Sep l H) (hi : l[e]? = some (Co p C g)) (hj : l[e2]? = some (Co q C h)) (k : sp [.ref p, .ref q] H Q E) : rBinOwn C sp E (.ref p) (.ref q) H Q := by
  obtain ⟨dx, fs, h1⟩ := ins_co S hi
  obtain ⟨dy, gs, h2⟩ := ins_co S hj
  exact ⟨p, dx, fs, q, dy, gs, rfl, rfl, h1, h2, k⟩
/-- isinstance of counts -/
theorem i_co {D : Addr} {b : Bool} {K : PySem.W.Frag} {ns : List Str} (S : Sep l H) (hi : l[e]? = some (Co p C g)) (hC : Kl K C ns) (ki : Ki K C) (hk : PySem.W.kitOne K (.ref C) (.ref D) = some b) (k : Q (.bl b) H) : gIsi K [.ref p, .ref D] H Q := by
  obtain ⟨d, m, _, _, S1⟩ := co_open (S.pick hi)
  exact i_ob S1 (e := 0) rfl hC ki hk k
theorem i_coT {T : String} {b : Bool} {K : PySem.W.Frag} {ns : List Str} (S : Sep l H) (hi : l[e]? = some (Co p C g)) (hC : Kl K C ns) (ki : Ki K C) (hk : PySem.W.kitOne K (.ref C) (.type T) = some b) (k : Q (.bl b) H) : gIsi K [.ref p, .ty T] H Q := by
  obtain ⟨d, m, _, _, S1⟩ := co_open (S.pick hi)
  exact i_obT S1 (e := 0) rfl hC ki hk k
end
local macro_rules | `(tactic| walk_at "v1") => `(tactic| (first
  | ((with_reducible refine' b_co (by assumption) ?hi ?hj ?_); (case hi => walk_at "has"); (case hj => walk_at "has"))
  | ((with_reducible refine' i_co (by assumption) ?hi ?hC ?ki ?hk ?_); (case hi => walk_at "has"); (case hC => assumption); (case ki => assumption); (case hk => assumption))))

/-! more own operators of instances with a dict: -o, abs(o), n * o, o op= x, x in o, o[i], truth, != by ==, repr -/
section
open PyProof.Rows
section
variable {X : Cx} {CX : CXT} {n : Nat} {f C : Addr} {sp : Sp} {E : XK}
/-- a one-place own method -/
def rUnOwn (C : Addr) (sp : Sp) (E : XK) : V → Hp → VK → Prop := fun x H Q => ∃ a dx fs, x = V.ref a ∧ H a = some (.ins C dx fs) ∧ sp [V.ref a] H Q E
theorem un_ownNeg (hm : Meth X.K C (Str.ofString "__neg__") f) (F : FnR X.prog X.w X.K X.mg X.base CX n f sp) (hr : Room n X.A) (hx : Passes CX X E) : UnR X (unaryOp .USub) (rUnOwn C sp E) := by
  intro pins s σ H x v Q I rx h
  obtain ⟨a, dx, fs, rfl, ha, q⟩ := h
  cases (show v = Value.ref a from rx)
  obtain ⟨ox, od, J⟩ := ins_inst I ha
  obtain ⟨m, hF⟩ := I.fr
  exact PySem.W.ksp_neg hF I.ok.mod.kin J hm.at_ hm.fn (wpAny_call (run_fnR (us := [.ref a]) (vs := [.ref a]) F hr hx I (.cons rfl .nil) q))
/-- abs(o) -/
def rAbsOwn (C : Addr) (sp : Sp) (E : XK) : List V → Hp → VK → Prop := fun xs H Q => ∃ a dx fs, xs = [V.ref a] ∧ H a = some (.ins C dx fs) ∧ sp [V.ref a] H Q E
theorem call_ownAbs (hm : Meth X.K C (Str.ofString "__abs__") f) (F : FnR X.prog X.w X.K X.mg X.base CX n f sp) (hr : Room (n + 1) X.A) (hx : Passes CX X E) : CallR X (.builtin "abs") (rAbsOwn C sp E) := by
  intro pins s σ H xs us Q I r h
  obtain ⟨a, dx, fs, rfl, ha, q⟩ := h
  obtain ⟨u, rfl, ru⟩ := r.one
  cases (show u = Value.ref a from ru)
  obtain ⟨ox, od, J⟩ := ins_inst I ha
  obtain ⟨m, hF⟩ := I.fr
  refine Calls.call_function_entry PyProof.Rows.kind_abs PyProof.Rows.plain_abs PyProof.Rows.entry_abs (PyProof.Rows.args_abs _) ?_
  unfold Builtin.«abs»
  refine wpAny_bind (m := oneArg "abs" _) (wpAny_pure ?_)
  refine wpAny_bind (m := callSpecial? (.ref a) (Str.ofString "__abs__")) (PySem.W.special_fn (I.ok.mod.kin.keeps hF.keep) J hm.at_ (beq_iff_eq.mp hm.fn) ?_)
  refine wpAny_mono (wpAny_call (SlX.run_at (us := [.ref a]) (ws := [.ref a]) F (show Room n X.A.in1 from Room.in1 hr) I.env0.in1 hx I (.cons rfl .nil) q)) (fun w s' z => ?_) fun _ _ x => x
  exact wpAny_pure ⟨_, rfl, z⟩
/-- o op= y -/
def rInpOwn (C : Addr) (sp : Sp) (E : XK) : TIp := fun x y H Q => ∃ a dx fs, x = V.ref a ∧ H a = some (.ins C dx fs) ∧ sp [V.ref a, y] H Q E
theorem ip_own {op : Operator} (hm : Meth X.K C (PySem.dunderI op.info.2) f) (hs : PySem.W.selfFirst X.K C = true) (F : FnR X.prog X.w X.K X.mg X.base CX n f sp) (hr : Room n X.A) (hx : Passes CX X E) : PIp X op (rInpOwn C sp E) := by
  intro pins s σ H x y v u Q I rx ry h
  obtain ⟨a, dx, fs, rfl, ha, q⟩ := h
  cases (show v = Value.ref a from rx)
  obtain ⟨ox, od, J⟩ := ins_inst I ha
  obtain ⟨m, hF⟩ := I.fr
  refine PySem.W.ksp_inplace hF I.ok.mod.kin J hs hm.at_ hm.fn ?_
  refine wpAny_mono (wpAny_call (run_fnR (us := [.ref a, u]) (vs := [.ref a, y]) F hr hx I (.cons rfl (.cons ry .nil)) q)) (fun w s' z => ?_) fun _ _ x => x
  obtain ⟨z', H', I', rz, qz⟩ := z
  exact SlX.cmpback rz ⟨z', H', I', rz, qz⟩
/-- x in o -/
def rInOwn (neg : Bool) (C : Addr) (sp : Sp) (E : XK) : R2 := fun x y H Q => ∃ a dx fs, y = V.ref a ∧ H a = some (.ins C dx fs) ∧ sp [V.ref a, x] H (fun z H' => ∃ b : Bool, z = .bl b ∧ Q (.bl (if neg then !b else b)) H') E
theorem op_ownIn (hm : Meth X.K C (Str.ofString "__contains__") f) (F : FnR X.prog X.w X.K X.mg X.base CX n f sp) (hr : Room n X.A) (hx : Passes CX X E) : OpR X (compareOp .In) (rInOwn false C sp E) := by
  intro pins s σ H x y v u Q I rx ry h
  obtain ⟨a, dx, fs, rfl, ha, q⟩ := h
  cases (show u = Value.ref a from ry)
  obtain ⟨ox, od, J⟩ := ins_inst I ha
  obtain ⟨m, hF⟩ := I.fr
  refine PySem.W.in_K hF I.ok.mod.kin J hm.at_ hm.fn ?_
  refine wpAny_mono (wpAny_call (run_fnR (us := [.ref a, v]) (vs := [.ref a, x]) F hr hx I (.cons rfl (.cons rx .nil)) q)) (fun w s' z => ?_) fun _ _ x => x
  obtain ⟨z', H', I', rz, b, ez, qz⟩ := z
  subst ez
  cases (show w = Value.bool b from rz)
  exact wpAny_truthy_bool ⟨.bl b, H', I', rfl, qz⟩
/-- truth of o by __bool__ -/
def rTruOwn (C : Addr) (sp : Sp) (E : XK) : V → Hp → (Bool → Hp → Prop) → Prop := fun x H Q => ∃ a dx fs, x = V.ref a ∧ H a = some (.ins C dx fs) ∧ sp [V.ref a] H (fun z H' => ∃ b : Bool, z = .bl b ∧ Q b H') E
theorem tru_own (hm : Meth X.K C (Str.ofString "__bool__") f) (F : FnR X.prog X.w X.K X.mg X.base CX n f sp) (hr : Room n X.A) (hx : Passes CX X E) : TruR X (rTruOwn C sp E) := by
  intro pins s σ H x v Q I rx h
  obtain ⟨a, dx, fs, rfl, ha, q⟩ := h
  cases (show v = Value.ref a from rx)
  obtain ⟨ox, od, J⟩ := ins_inst I ha
  obtain ⟨m, hF⟩ := I.fr
  refine PySem.W.truthy_K hF I.ok.mod.kin J hm.at_ hm.fn ?_
  refine wpAny_mono (wpAny_call (run_fnR (us := [.ref a]) (vs := [.ref a]) F hr hx I (.cons rfl .nil) q)) (fun w s' z => ?_) fun _ _ x => x
  obtain ⟨z', H', I', rz, b, ez, qz⟩ := z
  subst ez
  cases (show w = Value.bool b from rz)
  exact ⟨H', I', qz⟩
/-- o[i] -/
theorem pe_ixOwn {a b : Expr} {ta tb : TE} {pos : Pos} (hm : Meth X.K C (Str.ofString "__getitem__") f) (hfn : PySem.W.fnIn X.K f = true) (F : FnR X.prog X.w X.K X.mg X.base CX n f sp) (hr : Room (n + 1) X.A) (hx : Passes CX X E) (ha : PE X a ta) (hb : PE X b tb)
    (hsl : ∀ o i, subscripted b true o i = runValue (.builtin "lifetime.subscript" ⟨[o, i], []⟩)) :
    PE X (.Subscript a b pos) (tOp (fun x y H Q => ∃ a dx fs, x = V.ref a ∧ H a = some (.ins C dx fs) ∧ sp [V.ref a, y] H Q E) ta tb) := by
  refine ⟨fun pins s σ H Q I h => ?_⟩
  refine Subscript_ (binT ha hb I h fun v u s2 x y H2 I2 rx ry q => ?_)
  obtain ⟨a', dx, fs, rfl, ha', q⟩ := q
  cases (show v = Value.ref a' from rx)
  obtain ⟨ox, od, J⟩ := ins_inst I2 ha'
  obtain ⟨m, hF⟩ := I2.fr
  refine PySem.W.sub_K hF I2.ok.mod.kin J hm.at_ hfn hm.fn ?_ (hsl _ _)
  exact wpAny_call (SlX.run_at (us := [.ref a', u]) (ws := [.ref a', y]) F (show Room n X.A.in1 from Room.in1 hr) I2.env0.in1 hx I2 (.cons rfl (.cons ry .nil)) q)
/-- o != p by an own == -/
theorem ifBound_objNe {M : Model} {A : Around} {E : Value → Shared → Prop} {s : Shared} {K : PySem.W.Frag} {x C : Addr} {ox : Obj} {od : Option Obj} {args : List Value} {Q : Option Value → Shared → Prop} (X : K.In s.heap) (I : PySem.W.InstAt s.heap x ox C od) (hs : PySem.W.findIn K (.ref C) "__ne__" = some (some (.builtin "object.__ne__")))
    (h : wpAny M A (call (.builtin "object.__ne__") (.ref x :: args)) (fun v => Q (some v)) E s) : wpAny M A (callSpecialIfBound? (.ref x) "__ne__" args) Q E s := by
  simp only [callSpecialIfBound?, bindSpecialIfBound?]
  refine wpAny_holding (wpAny_bind (wpAny_bind (wpAny_bind (I.type.here ((PySem.W.looks_findIn X hs).here ?_)))))
  refine wpAny_bind (wpAny_askSetting (wpAny_ite ?_))
  have fin : wpAny M A (call (.builtin "object.__ne__") ([.ref x] ++ args) >>= fun v => pure (some v)) Q E s := wpAny_bind (wpAny_mono h (fun v s' h' => wpAny_pure h') fun _ _ h' => h')
  split
  · exact wpAny_bind (wpAny_of_eq (F.cmp_object.ne.bind _) (wpAny_pure (by exact fin)))
  · exact wpAny_tryCatch (wpAny_bind (wpAny_of_eq (F.cmp_object.ne.bind _) (wpAny_pure (by exact fin))))
/-- o != p, both of C -/
def rNeOwn (C : Addr) (sp : Sp) (E : XK) : R2 := fun x y H Q => ∃ a dx fs b dy gs, x = V.ref a ∧ y = V.ref b ∧ H a = some (.ins C dx fs) ∧ H b = some (.ins C dy gs) ∧ sp [x, y] H (fun z H' => ∃ c : Bool, z = .bl c ∧ Q (.bl (!c)) H') E
/-- o != p, both of C, with an own == and none for != -/
theorem op_ownNe (hne : PySem.W.findIn X.K (.ref C) "__ne__" = some (some (.builtin "object.__ne__"))) (hob : PySem.W.mroIn X.K C (.type "object") = some true) (hm : Meth X.K C (Str.ofString "__eq__") f) (hs : PySem.W.notFirst X.K C (.ref C) = true) (F : FnR X.prog X.w X.K X.mg X.base CX n f sp) (hr : Room (n + 1) X.A) (hu : X.A.units + 64 < cLine) (hx : Passes CX X E) :
    OpR X (compareOp .NotEq) (rNeOwn C sp E) := by
  intro pins s σ H x y v u Q I rx ry h
  obtain ⟨a, dx, fs, b, dy, gs, rfl, rfl, ha, hb, q⟩ := h
  cases (show v = Value.ref a from rx)
  cases (show u = Value.ref b from ry)
  obtain ⟨ox, od, J⟩ := ins_inst I ha
  obtain ⟨ox', od', J'⟩ := ins_inst I hb
  obtain ⟨m, hF⟩ := I.fr
  have XK := I.ok.mod.kin.keeps hF.keep
  have entry : wpAny (model X.prog X.w) X.A.in1 (Builtin.«object.__ne__» ⟨[.ref a, .ref b], []⟩) (fun r s' => ∃ w, r = .done (.ret w) ∧ (w ≠ .notImplemented ∧ EP X pins σ Q w s')) X.xe s := by
    unfold Builtin.«object.__ne__»
    repeat (first
      | with_reducible refine wpAny_cRoomFor (show X.A.in1.units < cLine by show X.A.units + 1 < cLine; omega) ?_
      | (refine wpAny_bind (m := callSpecialIfBound? (.ref a) (Str.ofString "__eq__") [.ref b]) (PySem.W.ifBound_K XK J hm.at_ hm.fn
          (wpAny_mono (wpAny_call (SlX.run_at (us := [.ref a, .ref b]) (ws := [.ref a, .ref b]) F (show Room n X.A.in1 from Room.in1 hr) I.env0.in1 hx I (.cons rfl (.cons rfl .nil)) q)) (fun w s' z => by
            obtain ⟨z', H', I', rz, c, ez, qz⟩ := z
            subst ez
            cases (show w = Value.bool c from rz)
            repeat (first | exact ⟨_, rfl, nofun, .bl (!c), H', I', rfl, qz⟩ | exact wpAny_pure ⟨_, rfl, nofun, .bl (!c), H', I', rfl, qz⟩ | (refine wpAny_bind (m := truthy (.bool _)) (wpAny_truthy_bool ?_)) | wp_step)) fun _ _ e => e)))
      | wp_step)
  have one : wpAny (model X.prog X.w) X.A (tryCompare (.ref a) "__ne__" (.ref b)) (fun r s' => ∃ w, r = some w ∧ EP X pins σ Q w s') X.xe s := by
    unfold tryCompare
    refine wpAny_bind (ifBound_objNe XK J hne ?_)
    refine wpAny_call (codeAny_call_builtin PySem.F.cmp_object.ne.plain PySem.F.cmpEntry_ne (PySem.W.check_slot PySem.F.cmpKind_ne PySem.F.cmpSplit_ne (J.type.andThen (PySem.W.looks_mroIn XK hob)) (PySem.F.cmpArgs_ne _ _) (wpAny_mono entry (fun r s' z => ?_) fun _ _ e => e)))
    obtain ⟨w, rfl, hw, ep⟩ := z
    cases w <;> first | exact (hw rfl).elim | exact wpAny_pure ⟨_, rfl, ep⟩
  show wpAny _ _ (richCompare .NotEq (.ref a) (.ref b)) _ _ _
  unfold richCompare
  simp only [oneThing_ref]
  refine wpAny_holding (wpAny_bind (wpAny_cRoomFor (by omega) ?_))
  refine wpAny_bind (J.type.here (wpAny_bind (J'.type.here ?_)))
  rw [show (Value.ref C != Value.ref C) = false from by simp]
  simp only [Bool.false_eq_true, if_false]
  refine wpAny_bind (wpAny_pure ?_)
  simp only [Bool.false_eq_true, if_false]
  refine wpAny_bind (m := tryCompare (.ref a) _ (.ref b)) (wpAny_mono one (fun r s' z => ?_) fun _ _ e => e)
  obtain ⟨w, rfl, ep⟩ := z
  exact wpAny_pure ep
end

end
/-! how many words; two counts beside each other; steps of the own operators -/
/-- at most n words with a number -/
def Sz (g : Str → Int) (n : Nat) : Prop := ∃ ws : List Str, ws.length ≤ n ∧ ∀ w, g w ≠ 0 → w ∈ ws
theorem Sz.le {g : Str → Int} {n m : Nat} (h : Sz g n) (k : n ≤ m) : Sz g m := h.imp fun _ h => ⟨Nat.le_trans h.1 k, h.2⟩
theorem Sz.num {m : List (Str × Int)} : Sz (Y.num m) m.length := ⟨keys m, by unfold keys; rw [List.length_map]; exact Nat.le_refl _, fun w h => Classical.byContradiction fun z => h (num_none z)⟩
theorem Sz.of {m : List (Str × Int)} {g : Str → Int} {n : Nat} (e : Y.num m = g) (h : m.length ≤ n) : Sz g n := e ▸ Sz.num.le h
theorem Sz.zero : Sz (fun _ => 0) 0 := ⟨[], Nat.le_refl _, fun _ h => (h rfl).elim⟩
theorem Sz.map {g : Str → Int} {n : Nat} (f : Str → Int) (h : Sz g n) (k : ∀ w, g w = 0 → f w = 0) : Sz f n := h.imp fun _ h => ⟨h.1, fun w z => h.2 w fun y => z (k w y)⟩
theorem Sz.two {g h : Str → Int} {n m : Nat} (f : Str → Int) (a : Sz g n) (b : Sz h m) (k : ∀ w, g w = 0 → h w = 0 → f w = 0) : Sz f (n + m) := by
  obtain ⟨ws, h1, h2⟩ := a
  obtain ⟨us, h3, h4⟩ := b
  refine ⟨ws ++ us, by rw [List.length_append]; omega, fun w z => ?_⟩
  by_cases e : g w = 0
  · by_cases e2 : h w = 0
    · exact (z (k w e e2)).elim
    · exact List.mem_append_right _ (h4 w e2)
  · exact List.mem_append_left _ (h2 w e)
theorem Sz.put {g : Str → Int} {n : Nat} (h : Sz g n) (v : Str) (x : Int) : Sz (fun w => if w = v then x else g w) (n + 1) := by
  obtain ⟨ws, h1, h2⟩ := h
  refine ⟨v :: ws, by rw [List.length_cons]; omega, fun w z => ?_⟩
  by_cases e : w = v
  · rw [e]; exact List.mem_cons_self
  · have z : (if w = v then x else g w) ≠ 0 := z
    rw [if_neg e] at z
    exact List.mem_cons_of_mem _ (h2 w z)
theorem Sz.psum (ps : List (Str × Int)) : Sz (Y.psum ps) ps.length := by
  refine ⟨keys ps, by unfold keys; rw [List.length_map]; exact Nat.le_refl _, fun w h => ?_⟩
  induction ps with
  | nil => exact (h rfl).elim
  | cons x ps ih =>
    show w ∈ x.1 :: keys ps
    by_cases e : x.1 = w
    · rw [e]; exact List.mem_cons_self
    · refine List.mem_cons_of_mem _ (ih ?_)
      intro z
      refine h ?_
      show (if x.1 = w then x.2 else 0) + Y.psum ps w = 0
      rw [if_neg e, z]; rfl
theorem Good.sz {m : List (Str × Int)} {g : Str → Int} {n : Nat} (h : Good m) (e : Y.num m = g) (k : Sz g n) : m.length ≤ n := by
  obtain ⟨ws, h1, h2⟩ := k
  have := nodup_le h.1 (m := ws) fun w hw => h2 w (by rw [← e]; exact good_val h hw)
  unfold keys at this
  rw [List.length_map] at this
  omega
/-! ### del d[k] -/
def mdel (m : List (Str × Int)) (w : Str) : List (Str × Int) := m.filter fun x => decide (x.1 ≠ w)
theorem num_del (m : List (Str × Int)) (w v : Str) : num (mdel m w) v = if v = w then 0 else num m v := by
  induction m with
  | nil => unfold mdel; simp [num]
  | cons x m ih =>
    unfold mdel at ih ⊢
    rw [List.filter_cons]
    by_cases h : x.1 = w
    · rw [if_neg (by simp [h]), ih]
      show (if v = w then 0 else num m v) = if v = w then 0 else (if x.1 = v then x.2 else num m v)
      by_cases e : v = w
      · rw [if_pos e, if_pos e]
      · rw [if_neg e, if_neg e, if_neg (fun z => e (z.symm.trans h))]
    · rw [if_pos (decide_eq_true h)]
      show (if x.1 = v then x.2 else num _ v) = if v = w then 0 else (if x.1 = v then x.2 else num m v)
      rw [ih]
      by_cases e : v = w
      · rw [if_pos e, if_pos e, if_neg (fun z => h (z.trans e))]
      · rw [if_neg e, if_neg e]
theorem drop_mp (m : List (Str × Int)) (w : Str) : dropK (mp m) (Sum.inr w : Key) = mp (mdel m w) := by
  unfold dropK mdel
  induction m with
  | nil => rfl
  | cons x m ih =>
    show List.filter _ ((Sum.inr x.1, V.int x.2) :: mp m) = _
    rw [List.filter_cons, List.filter_cons, ih]
    by_cases h : x.1 = w
    · rw [if_neg (by simp [h]), if_neg (by simp [h])]
    · rw [if_pos (by simp [h]), if_pos (decide_eq_true h)]; rfl
theorem good_del {m : List (Str × Int)} (h : Good m) (w : Str) : Good (mdel m w) :=
  ⟨List.Nodup.sublist (List.Sublist.map _ List.filter_sublist) h.1, fun x hx => h.2.1 x (List.mem_filter.1 hx).1, Nat.le_trans (List.length_filter_le _ _) h.2.2⟩
section
variable {l : List Asn} {H : Hp} {σ : L2.St} {d : Addr} {m : List (Str × Int)} {w : Str} {e : Nat} {td ty : TE} {nx bk ct : L2.St → Hp → Prop} {rt : VK}
def gDDel (x y : V) (H : Hp) (R : Hp → Prop) : Prop := ∃ a kvs k, x = .ref a ∧ H a = some (.dK kvs) ∧ y = kV k ∧ (valV kvs k).isSome = true ∧ R (upd H a (.dK (dropK kvs k)))
theorem r_ddel (q : td σ H fun x H1 => ty σ H1 fun y H2 => gDDel x y H2 fun H3 => nx σ H3) : sDDel td ty ⟨nx, rt, bk, ct⟩ σ H := q
theorem dl_mp {R : Hp → Prop} (S : Sep l H) (hi : l[e]? = some (At d (.dK (mp m)))) (hw : w ∈ keys m) (k : ∀ H', Sep (l.set e (At d (.dK (mp (mdel m w))))) H' → R H') : gDDel (.ref d) (.str w) H R :=
  ⟨d, mp m, Sum.inr w, rfl, S.at hi, rfl, by rw [val_mp, if_pos hw]; rfl, by rw [drop_mp]; exact k _ (S.upd hi fun _ z => nomatch z)⟩
end
/-! ### x in d, x not in d -/
section
variable {l : List Asn} {H : Hp} {σ : L2.St} {d : Addr} {m : List (Str × Int)} {w : Str} {e : Nat} {td ty : TE} {Q : VK} {RO : Option V → Prop}
theorem d_notin (q : ty σ H fun y H1 => td σ H1 fun x H2 => ∃ a o, x = .ref a ∧ DGet H2 a y o ∧ Q (.bl (!o.isSome)) H2) : tDNotIn ty td σ H Q := q
theorem e_inF {od : Obj} (S : Sep l H) (hi : l[e]? = some (At d (.frz od (.dK (mp m))))) (q : ∀ o : Option V, o.isSome = decide (w ∈ keys m) → RO o) : ∃ a o, V.ref d = .ref a ∧ DGet H a (.str w) o ∧ RO o := ⟨d, _, rfl, dget_of (.inr ⟨od, S.at hi⟩), q _ (by
  rw [val_mp]
  by_cases hw : w ∈ keys m
  · rw [decide_eq_true hw, if_pos hw]; rfl
  · rw [decide_eq_false hw, if_neg hw]; rfl)⟩
end
local macro_rules | `(tactic| walk_at "v1") => `(tactic| (first
  | with_reducible refine d_notin ?_
  | ((with_reducible refine' e_inF (by assumption) ?hi ?_); (case hi => walk_at "has"); (refine fun o ho => ?_); rw [ho]; clear ho)))
/-! ### min, max of two -/
def gMin2 : List V → Hp → VK → Prop := fun xs H Q => ∃ i j, xs = [V.int i, V.int j] ∧ Q (V.int (if j < i then j else i)) H
def gMax2 : List V → Hp → VK → Prop := fun xs H Q => ∃ i j, xs = [V.int i, V.int j] ∧ Q (V.int (if j > i then j else i)) H
theorem call_gMin2 {X : Cx} (hc : X.calm = true) : CallR X (.builtin "min") gMin2 := call_min2 hc
theorem call_gMax2 {X : Cx} (hc : X.calm = true) : CallR X (.builtin "max") gMax2 := call_max2 hc
section
variable {l : List Asn} {H : Hp} {σ : L2.St} {Q : VK} {m n : Int} {p q C : Addr} {g h : Str → Int} {sp : Sp} {E : XK} {e e2 : Nat} {K : PySem.W.Frag} {x y : V}
theorem o_min2 (k : Q (.int (if n < m then n else m)) H) : gMin2 [.int m, .int n] H Q := ⟨m, n, rfl, k⟩
theorem o_max2 (k : Q (.int (if n > m then n else m)) H) : gMax2 [.int m, .int n] H Q := ⟨m, n, rfl, k⟩
theorem u_co (S : Sep l H) (hi : l[e]? = some (Co p C g)) (k : sp [.ref p] H Q E) : rUnOwn C sp E (.ref p) H Q := by
  obtain ⟨dx, fs, h1⟩ := ins_co S hi
  exact ⟨p, dx, fs, rfl, h1, k⟩
theorem ab_co (S : Sep l H) (hi : l[e]? = some (Co p C g)) (k : sp [.ref p] H Q E) : rAbsOwn C sp E [.ref p] H Q := by
  obtain ⟨dx, fs, h1⟩ := ins_co S hi
  exact ⟨p, dx, fs, rfl, h1, k⟩
theorem ip_co (S : Sep l H) (hi : l[e]? = some (Co p C g)) (k : sp [.ref p, y] H Q E) : rInpOwn C sp E (.ref p) y H Q := by
  obtain ⟨dx, fs, h1⟩ := ins_co S hi
  exact ⟨p, dx, fs, rfl, h1, k⟩
theorem in_co {neg : Bool} (S : Sep l H) (hi : l[e]? = some (Co p C g)) (k : sp [.ref p, x] H (fun z H' => ∃ b : Bool, z = .bl b ∧ Q (.bl (if neg then !b else b)) H') E) : rInOwn neg C sp E x (.ref p) H Q := by
  obtain ⟨dx, fs, h1⟩ := ins_co S hi
  exact ⟨p, dx, fs, rfl, h1, k⟩
theorem ix_co {y : V} (S : Sep l H) (hi : l[e]? = some (Co p C g)) (k : sp [.ref p, y] H Q E) : ∃ a dx fs, V.ref p = V.ref a ∧ H a = some (.ins C dx fs) ∧ sp [V.ref a, y] H Q E := by
  obtain ⟨dx, fs, h1⟩ := ins_co S hi
  exact ⟨p, dx, fs, rfl, h1, k⟩
theorem tr_co {R : Bool → Hp → Prop} (S : Sep l H) (hi : l[e]? = some (Co p C g)) (k : sp [.ref p] H (fun z H' => ∃ b : Bool, z = .bl b ∧ R b H') E) : rTruOwn C sp E (.ref p) H R := by
  obtain ⟨dx, fs, h1⟩ := ins_co S hi
  exact ⟨p, dx, fs, rfl, h1, k⟩
end
local macro_rules | `(tactic| walk_at "v1") => `(tactic| (first
  | with_reducible refine r_ddel ?_
  | with_reducible refine o_min2 ?_
  | with_reducible refine o_max2 ?_
  | ((with_reducible refine' dl_mp (by assumption) ?hi (by assumption) ?_); (case hi => walk_at "has"); intro _ S; simp only [List.set] at S)
  | ((with_reducible refine' u_co (by assumption) ?hi ?_); (case hi => walk_at "has"))
  | ((with_reducible refine' ab_co (by assumption) ?hi ?_); (case hi => walk_at "has"))
  | ((with_reducible refine' ip_co (by assumption) ?hi ?_); (case hi => walk_at "has"))
  | ((with_reducible refine' in_co (by assumption) ?hi ?_); (case hi => walk_at "has"))
  | ((with_reducible refine' ix_co (by assumption) ?hi ?_); (case hi => walk_at "has"))
  | ((with_reducible refine' tr_co (by assumption) ?hi ?_); (case hi => walk_at "has"))))
/-! ### words with two numbers -/
abbrev tri (g h : Str → Int) (ws : List Str) : List PyData := ws.map fun w => PyData.tuple [.str w, .int (g w), .int (h w)]
/-- ws are words, each once, and all that have a number -/
def Bs (g h : Str → Int) (ws : List Str) : Prop := ws.Nodup ∧ (∀ w ∈ ws, Wd w) ∧ ∀ w, w ∉ ws → g w = 0 ∧ h w = 0
theorem tri_get {H : Hp} {vs : List V} {g h : Str → Int} {ws : List Str} {i : Nat} {v : V} (D : IsDs H vs (tri g h ws)) (e : vs[i]? = some v) : ∃ q w, ws[i]? = some w ∧ v = .ref q ∧ H q = some (.tup [.str w, .int (g w), .int (h w)]) := by
  obtain ⟨d, e1, h1⟩ := D.get e
  rw [List.getElem?_map] at e1
  cases e2 : ws[i]? with
  | none => rw [e2] at e1; cases e1
  | some w =>
    rw [e2] at e1
    cases e1
    cases h1 with
    | tup hq r =>
      cases r with
      | cons a r =>
        cases a
        cases r with
        | cons b r =>
          cases b
          cases r with
          | cons c r =>
            cases c
            cases r
            exact ⟨_, w, rfl, rfl, hq⟩
theorem tri_isD {H : Hp} {q : Addr} {w : Str} {m n : Int} (h : H q = some (.tup [.str w, .int m, .int n])) : IsD H (.ref q) (.tuple [.str w, .int m, .int n]) :=
  .tup h (.cons (.str w) (.cons (.int m) (.cons (.int n) .nil)))
theorem tri_len {H : Hp} {vs : List V} {g h : Str → Int} {ws : List Str} (D : IsDs H vs (tri g h ws)) : vs.length = ws.length := by rw [D.len, List.length_map]
/-- the words with what f says of them -/
abbrev fps (f : Str → Int) (ws : List Str) : List (Str × Int) := ws.map fun w => (w, f w)
theorem keys_fps (f : Str → Int) (ws : List Str) : keys (fps f ws) = ws := by
  unfold keys
  rw [List.map_map]
  conv => rhs; rw [← List.map_id ws]
  exact List.map_congr_left fun _ _ => rfl
theorem num_fps {f : Str → Int} : ∀ {ws : List Str}, ws.Nodup → (∀ w, w ∉ ws → f w = 0) → num (fps f ws) = f := by
  intro ws hn h0
  funext w
  by_cases hw : w ∈ ws
  · have := num_at (m := fps f ws) (x := (w, f w)) (by rw [keys_fps]; exact hn) (List.mem_map.2 ⟨w, hw, rfl⟩)
    exact this
  · rw [h0 w hw]
    exact num_none (by rw [keys_fps]; exact hw)
theorem fps_snoc {H : Hp} {f : Str → Int} {us : List V} {ws : List Str} {w : Str} {q : Addr} (D : IsDs H us (pds (fps f ws))) (h : H q = some (.tup [.str w, .int (f w)])) : IsDs H (us ++ [.ref q]) (pds (fps f (ws ++ [w]))) := by
  have h1 := IsDs.snoc (pair_isD h) D
  have e : pds (fps f ws) ++ [pd (w, f w)] = pds (fps f (ws ++ [w])) := by simp
  rw [← e]; exact h1
theorem fps_wd {f : Str → Int} {ws : List Str} (h : ∀ w ∈ ws, Wd w) : ∀ x ∈ fps f ws, Wd x.1 := fun x hx => by
  obtain ⟨w, hw, rfl⟩ := List.mem_map.1 hx
  exact h w hw
/-- counts at an index -/
theorem Sep.co {l : List Asn} {H : Hp} {i : Nat} {p C : Addr} {g : Str → Int} (S : Sep l H) (e : l[i]? = some (Co p C g)) : ∃ d m, Good m ∧ num m = g ∧ Sep (Ob p C [("_numbers", .ref d)] :: At d (.dK (mp m)) :: l.eraseIdx i) H := co_open (S.pick e)
theorem Sep.coBack {l : List Asn} {H : Hp} {i : Nat} {p C d : Addr} {g : Str → Int} {m : List (Str × Int)} (e : l[i]? = some (Co p C g)) (h : Good m) (h2 : num m = g) (S : Sep (Ob p C [("_numbers", .ref d)] :: At d (.dK (mp m)) :: l.eraseIdx i) H) : Sep l H := Sep.backS e (co_close h h2 S)

/-! walks over a dict that is an attribute; counts and ints multiplied -/
theorem mp_get' {m : List (Str × Int)} {i : Nat} {k : Key} {v : V} (h : (mp m)[i]? = some (k, v)) : ∃ w n, m[i]? = some (w, n) ∧ k = Sum.inr w ∧ v = .int n := by
  rw [List.getElem?_map] at h
  cases e : m[i]? with
  | none => rw [e] at h; cases h
  | some x =>
    rw [e] at h
    cases h
    exact ⟨x.1, x.2, rfl, rfl, rfl⟩
/-- .. over a dict, locked, the dict read where it is locked already -/
theorem lcK2 {σ : L2.St} {H : Hp} {g : TG} {tt : TT} {te ta : TE} {vs : List Nat} {Q : VK} {l : List Asn} {p : Addr} {e : Nat} {kvs : List (Key × V)} (S : Sep l H) (hi : l[e]? = some (At p (.dK kvs))) (Pv : Obj → Addr → Nat → Hp → Prop) (h0 : ∀ od D H', Sep (At D (.lst []) :: l.set e (At p (.frz od (.dK kvs)))) H' → Pv od D 0 H') (hl : ∀ od D i H, Pv od D i H → H p = some (.frz od (.dK kvs)))
    (hs : ∀ od D i k v H, kvs[i]? = some (k, v) → Pv od D i H → LcT g tt ta vs σ (kV k) D (Pv od D (i + 1)) H) (hd : ∀ od D H, Pv od D kvs.length H → Q (.ref D) (upd H p (.dK kvs))) (hv : ∀ od H' R, Sep (l.set e (At p (.frz od (.dK kvs)))) H' → R (.ref p) H' → te σ H' R) : tLockE (tLc (iKeys te) g tt ta vs) σ H Q := by
  refine ⟨p, .dK kvs, S.at hi, trivial, fun od => ?_⟩
  have S' := S.upd hi (o' := .frz od (.dK kvs)) (fun _ z => nomatch z)
  show te σ _ _
  refine hv od _ _ S' ?_
  refine ⟨p, od, rfl, .inl ⟨kvs, upd_same, fun D hD => ⟨fun i m H => m = kvs.length - i ∧ i ≤ kvs.length ∧ Pv od D i H, ⟨kvs.length, by simp, Nat.zero_le _, h0 od D _ (S'.new hD)⟩, ?_⟩⟩⟩
  rintro i m H ⟨rfl, hi, q⟩
  have hq := hl od D i H q
  by_cases hlt : i < kvs.length
  · refine .inr ⟨⟨hq, hlt⟩, Pv od D (i + 1), fun H' p' => ⟨kvs.length - (i + 1), by omega, rfl, hlt, p'⟩, fun x H' y => ?_⟩
    obtain ⟨rfl, k, v, ek, rfl⟩ := y
    exact hs od D i k v _ ek q
  · have e : i = kvs.length := by omega
    subst e
    exact .inl ⟨⟨hq, Nat.le_refl _⟩, hq, hd od D H q⟩
/-- .. over e.items(), locked, e read where the dict is locked already -/
theorem lcI2 {σ : L2.St} {H : Hp} {g : TG} {tt : TT} {te ta : TE} {vs : List Nat} {Q : VK} {l : List Asn} {p : Addr} {e : Nat} {kvs : List (Key × V)} (S : Sep l H) (hi : l[e]? = some (At p (.dK kvs))) (Pv : Obj → Addr → Nat → Hp → Prop) (h0 : ∀ od D H', Sep (At D (.lst []) :: l.set e (At p (.frz od (.dK kvs)))) H' → Pv od D 0 H') (hl : ∀ od D i H, Pv od D i H → H p = some (.frz od (.dK kvs)))
    (hs : ∀ od D i k v T H H', kvs[i]? = some (k, v) → Pv od D i H → H T = none → H' = upd H T (.tup [kV k, v]) → LcT g tt ta vs σ (.ref T) D (Pv od D (i + 1)) H') (hd : ∀ od D H, Pv od D kvs.length H → Q (.ref D) (upd H p (.dK kvs))) (hv : ∀ od H' R, Sep (l.set e (At p (.frz od (.dK kvs)))) H' → R (.ref p) H' → te σ H' R) : tLockE (tLc (iItems te) g tt ta vs) σ H Q := by
  refine ⟨p, .dK kvs, S.at hi, trivial, fun od => ?_⟩
  have S' := S.upd hi (o' := .frz od (.dK kvs)) (fun _ z => nomatch z)
  show te σ _ _
  refine hv od _ _ S' ?_
  refine ⟨p, od, kvs, rfl, upd_same, fun D hD => ⟨fun i m H => m = kvs.length - i ∧ i ≤ kvs.length ∧ Pv od D i H, ⟨kvs.length, by simp, Nat.zero_le _, h0 od D _ (S'.new hD)⟩, ?_⟩⟩
  rintro i m H ⟨rfl, hi, q⟩
  have hq := hl od D i H q
  by_cases hlt : i < kvs.length
  · refine .inr ⟨⟨hq, hlt⟩, Pv od D (i + 1), fun H' p' => ⟨kvs.length - (i + 1), by omega, rfl, hlt, p'⟩, fun x H' y => ?_⟩
    obtain ⟨T, k, v, ek, rfl, hn, rfl⟩ := y
    exact hs od D i k v T H _ ek q hn rfl
  · have e : i = kvs.length := by omega
    subst e
    exact .inl ⟨⟨hq, Nat.le_refl _⟩, hq, hd od D H q⟩
theorem asc_nodup {ws : List Str} (h : Asc ws) : ws.Nodup := List.Pairwise.imp (fun {a b} (h : lt' a b) (e : a = b) => lt_irr b (e ▸ h)) h
theorem int_perm {xs ys : List Int} (h : xs.Perm ys) : xs.sum = ys.sum := by
  induction h with
  | nil => rfl
  | cons x _ ih => rw [List.sum_cons, List.sum_cons, ih]
  | swap x y l => rw [List.sum_cons, List.sum_cons, List.sum_cons, List.sum_cons]; omega
  | trans _ _ h1 h2 => rw [h1, h2]
theorem keys_nd {L : List (Str × Int)} (h : (keys L).Nodup) : L.Nodup := by
  induction L with
  | nil => exact List.nodup_nil
  | cons x L ih =>
    have h' := List.nodup_cons.1 h
    exact List.nodup_cons.2 ⟨fun z => h'.1 (List.mem_map_of_mem z), ih h'.2⟩
theorem perm_told {m L : List (Str × Int)} (hG : Good m) (hL : Told (num m) L) : m.Perm L := by
  refine (List.perm_ext_iff_of_nodup (keys_nd hG.1) (keys_nd (asc_nodup hL.1))).2 fun x => ?_
  constructor
  · intro hx
    have h1 := num_at hG.1 hx
    have h2 := (hG.2.1 x hx).1
    obtain ⟨y, hy, ey⟩ := List.mem_map.1 ((hL.2.1 x.1).2 (by rw [h1]; exact h2))
    have h3 := hL.2.2 y hy
    have ey' : y.1 = x.1 := ey
    rw [ey', h1] at h3
    have : y = x := Prod.ext ey' h3
    exact this ▸ hy
  · intro hx
    have h3 := hL.2.2 x hx
    have hk : x.1 ∈ keys m := Classical.byContradiction fun z => (hL.2.1 x.1).1 (List.mem_map_of_mem hx) (num_none z)
    have h4 := key_num hG.1 hk
    rw [← h3] at h4
    exact h4
theorem len_sub : ∀ {xs ys : List Str}, xs.Nodup → (∀ x ∈ xs, x ∈ ys) → xs.length ≤ ys.length
  | [], _, _, _ => Nat.zero_le _
  | x :: xs, ys, hn, h => by
    have hn' := List.nodup_cons.1 hn
    have hx := h x List.mem_cons_self
    have h1 := len_sub (ys := ys.erase x) hn'.2 fun y hy => (List.mem_erase_of_ne (fun (e : y = x) => hn'.1 (by rw [← e]; exact hy))).2 (h y (List.mem_cons_of_mem _ hy))
    rw [List.length_erase_of_mem hx] at h1
    have : 0 < ys.length := List.length_pos_of_mem hx
    rw [List.length_cons]; omega
theorem good_len {m mm : List (Str × Int)} (h : Good m) (e : num mm = num m) : m.length ≤ mm.length := by
  have h1 := len_sub (xs := keys m) (ys := keys mm) h.1 fun w hw => by
    obtain ⟨x, hx, ex⟩ := List.mem_map.1 hw
    refine Classical.byContradiction fun z => (h.2.1 x hx).1 ?_
    rw [← num_at h.1 hx, ← e]
    show num mm x.1 = 0
    rw [show x.1 = w from ex]
    exact num_none z
  unfold keys at h1
  rwa [List.length_map, List.length_map] at h1
theorem good_put {m : List (Str × Int)} {w : Str} {n : Int} (h : Good m) (hw : Wd w) (hn : n ≠ 0) (hz : m.length < 500) : Good (mput m w n) := by
  refine ⟨nodup_put h.1 w n, fun x hx => ?_, Nat.le_trans (len_put _ _ _) (by omega)⟩
  have h1 := num_at (nodup_put h.1 w n) hx
  rw [num_put] at h1
  by_cases e : x.1 = w
  · rw [if_pos e] at h1
    exact ⟨h1 ▸ hn, e ▸ hw⟩
  · rw [if_neg e] at h1
    rcases mem_put (List.mem_map_of_mem hx : x.1 ∈ keys (mput m w n)) with z | z
    · exact (e z).elim
    · obtain ⟨y, hy, ey⟩ := List.mem_map.1 z
      have h2 := num_at h.1 hy
      have h3 := h.2.1 y hy
      rw [show y.1 = x.1 from ey] at h2 h3
      rw [← h1, h2]
      exact h3
theorem erase_get {α : Type} {l : List α} {i j : Nat} {x : α} (h : i ≠ j) (e : l[j]? = some x) : (l.eraseIdx i)[if j < i then j else j - 1]? = some x := by
  rw [List.getElem?_eraseIdx]
  by_cases c : j < i
  · rw [if_pos c, if_pos c]; exact e
  · rw [if_neg c, if_neg (by omega), show j - 1 + 1 = j by omega]; exact e
theorem tri_snoc {g h : Str → Int} {ws : List Str} {w : Str} : tri g h (ws ++ [w]) = tri g h ws ++ [PyData.tuple [.str w, .int (g w), .int (h w)]] := by simp
/-! ### o * n, n * o -/
/-- what the lookups of * beside an int say -/
structure MulI (K : PySem.W.Frag) (C : Addr) : Prop where
  hr : ∃ rc : Option Value, PySem.W.findIn K (.ref C) (PySem.dunderR "mul") = some rc ∧ (rc = none ∨ ∃ g : Addr, rc = some (.ref g))
  h1 : ∃ fo, PySem.W.findIn K (.type "int") (PySem.dunder "mul") = some fo
  h2 : ∃ ro, PySem.W.findIn K (.type "int") (PySem.dunderR "mul") = some ro
  su : PySem.W.subIn K (.type "int") (.ref C) = some false
  us : PySem.W.subIn K (.ref C) (.type "int") = some false
section
variable {X : Cx} {CX : CXT} {n : Nat} {f C : Addr} {sp : Sp} {E : XK}
/-- o * n, n an int -/
def rMulI (C : Addr) (sp : Sp) (E : XK) : R2 := fun x y H Q => ∃ a dx fs i, x = V.ref a ∧ y = V.int i ∧ H a = some (.ins C dx fs) ∧ sp [x, y] H Q E
theorem op_mulI (mi : MulI X.K C) (hm : Meth X.K C (PySem.dunder Operator.Mult.info.2) f) (hs : PySem.W.selfFirst X.K C = true) (F : FnR X.prog X.w X.K X.mg X.base CX n f sp) (hr : Room n X.A) (hx : Passes CX X E) : OpR X (binaryOp .Mult) (rMulI C sp E) := by
  intro pins s σ H x y v u Q I rx ry h
  obtain ⟨a, dx, fs, i, rfl, rfl, ha, q⟩ := h
  cases (show v = Value.ref a from rx)
  obtain ⟨t, rfl⟩ := (show ∃ t, u = Value.int i t from ry)
  obtain ⟨ox, od, J⟩ := ins_inst I ha
  obtain ⟨m, hF⟩ := I.fr
  obtain ⟨rc, h3, h4⟩ := mi.hr
  obtain ⟨fo, h1⟩ := mi.h1
  obtain ⟨ro, h2⟩ := mi.h2
  refine PySem.W.ksp_binT (op := .Mult) (T := "int") hF I.ok.mod.kin J rfl hs hm.at_ hm.fn h3 h4 h1 h2 mi.su ?_
  refine wpAny_mono (wpAny_call (run_fnR (us := [.ref a, .int i t]) (vs := [.ref a, .int i]) F hr hx I (.cons rfl (.cons ⟨t, rfl⟩ .nil)) q)) (fun w s' z => ?_) fun _ _ x => x
  obtain ⟨z', H', I', rz, qz⟩ := z
  exact SlX.cmpback rz ⟨z', H', I', rz, qz⟩
theorem int_mul_ins (a : Int) (t : Tok) (l C dx : Addr) :
    Meets (Builtin.«int.__mul__» ⟨[.int a t, .ref l], []⟩) (fun _ R s => s.heap.get? l = some (PySem.W.instObj C dx) ∧ R (.ok (.ret Value.notImplemented)) s) :=
  .of_wp fun prog w A R s h => by obtain ⟨hp, g, d, tk, os⟩ := s; obtain ⟨hl, h⟩ := h; wp_walk using wpAny_loadPart' hl; exact ⟨_, rfl, h⟩
/-- n * o, n an int -/
def rMulR (C : Addr) (sp : Sp) (E : XK) : R2 := fun x y H Q => ∃ a dx fs i, x = V.int i ∧ y = V.ref a ∧ H a = some (.ins C dx fs) ∧ sp [y, x] H Q E
theorem op_mulR {f0 : Addr} (mi : MulI X.K C) (hm0 : Meth X.K C (PySem.dunder "mul") f0) (hm : Meth X.K C (PySem.dunderR "mul") f) (hs : PySem.W.selfFirst X.K C = true) (F : FnR X.prog X.w X.K X.mg X.base CX n f sp) (hr : Room n X.A) (hx : Passes CX X E) : OpR X (binaryOp .Mult) (rMulR C sp E) := by
  intro pins s σ H x y v u Q I rx ry h
  obtain ⟨a, dx, fs, i, rfl, rfl, ha, q⟩ := h
  cases (show u = Value.ref a from ry)
  obtain ⟨t, rfl⟩ := (show ∃ t, v = Value.int i t from rx)
  obtain ⟨mA, O, _⟩ := ins_get I.hok ha
  obtain ⟨od, J, _⟩ := O.look
  obtain ⟨m, hF⟩ := I.fr
  have XX := I.ok.mod.kin.keeps hF.keep
  obtain ⟨cd, rest, hcd, hmro⟩ := PySem.W.ksp_first hs
  have one := PySem.W.ksp_try (b := .int i t) XX J hm.at_ hm.fn (Q := EP X pins σ Q) (wpAny_mono (wpAny_call (run_fnR (us := [.ref a, .int i t]) (vs := [.ref a, .int i]) F hr hx I (.cons rfl (.cons ⟨t, rfl⟩ .nil)) q)) (fun w s' z => by
    obtain ⟨z', H', I', rz, qz⟩ := z
    exact SlX.cmpback rz ⟨z', H', I', rz, qz⟩) fun _ _ x => x)
  have L1 : PySem.W.Looks (model X.prog X.w) s.heap (typeOf (.int i t)) (.type "int") := PySem.W.Looks.of_pure rfl
  have L2 : PySem.W.Looks (model X.prog X.w) s.heap (typeOf (.ref a)) (.ref C) := J.type
  have L3 : PySem.W.Looks (model X.prog X.w) s.heap (fillsNumberSlot (.type "int") "mul") true := PySem.W.Looks.of_pure PySem.F.fills_int_mul
  have L4 : PySem.W.Looks (model X.prog X.w) s.heap (fillsNumberSlot (.ref C) "mul") true := PySem.W.fills_K XX hcd hmro hm0.at_
  have L5 : PySem.W.Looks (model X.prog X.w) s.heap (isSubtype (.ref C) (.type "int")) false := PySem.W.looks_subIn XX mi.us
  have hne : (Value.type "int" == Value.ref C) = false := Bool.eq_false_iff.mpr fun q => by cases beq_iff_eq.mp q
  show wpAny _ _ (binaryOp .Mult (.int i t) (.ref a)) _ _ _
  unfold binaryOp
  refine wpAny_holding (wpAny_bind ?_)
  show wpAny _ _ (binaryOp1 "mul" (.int i t) (.ref a)) _ _ _
  unfold binaryOp1
  refine wpAny_bind (L1.here (wpAny_bind (L2.here (wpAny_bind (L3.here ?_)))))
  simp only [hne, Bool.false_eq_true, if_false]
  refine wpAny_bind (L4.here ?_)
  simp only [Bool.and_self, if_true, Bool.true_and]
  refine wpAny_bind (L5.here ?_)
  simp only [Bool.false_eq_true, if_false, Bool.not_false, if_true, pure_bind]
  refine wpAny_bind ((show PySem.W.Looks (model X.prog X.w) s.heap (numberSlotInPython (.type "int") "mul") false from PySem.W.Looks.of_pure rfl).here ?_)
  simp only [Bool.false_eq_true, if_false]
  refine wpAny_bind (m := tryMethod (.int i t) _ (.ref a)) (wpAny_tryMethod_declines (T := "int") (show s.TypeIs (.int i t) "int" from rfl) PySem.F.slot_int_mul (call_meets PySem.F.slot_int_mul (show s.TypeIs (.int i t) "int" from rfl) PySem.F.entry_int_mul (PySem.F.args_int_mul_2 _ _) (int_mul_ins i t a C dx) ⟨J.at_, rfl, ?_⟩))
  refine wpAny_bind (m := tryMethod (.ref a) _ (.int i t)) (wpAny_mono one (fun r s' z => ?_) fun _ _ e => e)
  obtain ⟨w, rfl, ep⟩ := z
  exact wpAny_bind (wpAny_rule (wpAny_pure (wpAny_pure ep)))
end
section
variable {l : List Asn} {H : Hp} {Q : VK} {m : Int} {p C : Addr} {g : Str → Int} {sp : Sp} {E : XK} {e : Nat}
theorem mi_co (S : Sep l H) (hi : l[e]? = some (Co p C g)) (k : sp [.ref p, .int m] H Q E) : rMulI C sp E (.ref p) (.int m) H Q := by
  obtain ⟨dx, fs, h1⟩ := ins_co S hi
  exact ⟨p, dx, fs, m, rfl, rfl, h1, k⟩
theorem mr_co (S : Sep l H) (hi : l[e]? = some (Co p C g)) (k : sp [.ref p, .int m] H Q E) : rMulR C sp E (.int m) (.ref p) H Q := by
  obtain ⟨dx, fs, h1⟩ := ins_co S hi
  exact ⟨p, dx, fs, m, rfl, rfl, h1, k⟩
end
local macro_rules | `(tactic| walk_at "v1") => `(tactic| (first
  | ((with_reducible refine' mi_co (by assumption) ?hi ?_); (case hi => walk_at "has"))
  | ((with_reducible refine' mr_co (by assumption) ?hi ?_); (case hi => walk_at "has"))))

/-! dicts by their numbers alone; assertions found in a frame that is not listed -/
local macro_rules | `(tactic| walk_at "hasA") => `(tactic| (first | assumption | ((with_reducible refine' hasS ?h2); (case h2 => walk_at "hasA")) | fail "has"))
local macro_rules | `(tactic| walk_at "has") => `(tactic| (first | walk_at "hasR" | walk_at "hasA" | walk_at "hasD" | fail "has"))
/-- a dict of words and numbers, known by its numbers: at most n entries -/
def Md (d : Addr) (F : Str → Int) (n : Nat) : Asn := Exs fun m : List (Str × Int) => Pk [pure' ((keys m).Nodup ∧ m.length ≤ n ∧ num m = F), At d (.dK (mp m))]
section
variable {l : List Asn} {H : Hp} {d : Addr} {F : Str → Int} {n : Nat} {m : List (Str × Int)} {i : Nat}
theorem md_open (S : Sep (Md d F n :: l) H) : ∃ m, (keys m).Nodup ∧ m.length ≤ n ∧ num m = F ∧ Sep (At d (.dK (mp m)) :: l) H := by
  obtain ⟨m, S⟩ := S.ex
  obtain ⟨⟨h1, h2, h3⟩, S⟩ := (S.open').pure
  exact ⟨m, h1, h2, h3, S⟩
theorem md_close (h1 : (keys m).Nodup) (h2 : m.length ≤ n) (h3 : num m = F) (S : Sep (At d (.dK (mp m)) :: l) H) : Sep (Md d F n :: l) H :=
  Sep.ex' (x := m) (Sep.close' (l := [_, _]) (Sep.pure_in ⟨h1, h2, h3⟩ S))
theorem Sep.md (S : Sep l H) (e : l[i]? = some (Md d F n)) : ∃ m, (keys m).Nodup ∧ m.length ≤ n ∧ num m = F ∧ Sep (At d (.dK (mp m)) :: l.eraseIdx i) H := md_open (S.pick e)
theorem Sep.mdBack (e : l[i]? = some (Md d F n)) (h1 : (keys m).Nodup) (h2 : m.length ≤ n) (h3 : num m = F) (S : Sep (At d (.dK (mp m)) :: l.eraseIdx i) H) : Sep l H := Sep.backS e (md_close h1 h2 h3 S)
/-- what is read of it -/
theorem Sep.mdAt (S : Sep l H) (e : l[i]? = some (Md d F n)) : ∃ m, (keys m).Nodup ∧ m.length ≤ n ∧ num m = F ∧ H d = some (.dK (mp m)) := by
  obtain ⟨m, h1, h2, h3, S⟩ := S.md e
  exact ⟨m, h1, h2, h3, S.at (i := 0) rfl⟩
theorem Md.sz (S : Sep l H) (e : l[i]? = some (Md d F n)) : Sz F n := by
  obtain ⟨m, _, h2, h3, _⟩ := S.mdAt e
  exact Sz.of h3 h2
theorem e_isdM {R : Addr → Prop} (S : Sep l H) (hi : l[i]? = some (Md d F n)) (q : R d) : ∃ a, V.ref d = .ref a ∧ L2.IsD H a ∧ R a := by
  obtain ⟨m, _, _, _, h⟩ := S.mdAt hi
  exact ⟨d, rfl, .inl ⟨mp m, .inl h⟩, q⟩
theorem e_get0M {w : Str} {R : Option V → Prop} (S : Sep l H) (hi : l[i]? = some (Md d F n)) (q : ∀ o : Option V, o.getD (.int 0) = .int (F w) → R o) : ∃ o, DGet H d (.str w) o ∧ R o := by
  obtain ⟨m, _, _, h3, h⟩ := S.mdAt hi
  subst h3
  exact get0_of (.inl h) q
theorem ld_md {Q : VK} (S : Sep l H) (hi : l[i]? = some (Md d F n)) (k : ∀ (p : Addr) (ks : List Str) (H' : Hp), (∀ w, w ∉ ks → F w = 0) → ks.length ≤ n → Sep (At p (.lst (ks.map V.str)) :: l) H' → Q (.ref p) H') : gListD [.ref d] H Q := by
  obtain ⟨m, _, h2, h3, h⟩ := S.mdAt hi
  subst h3
  refine ⟨d, mp m, rfl, .inl h, fun p hp => ?_⟩
  rw [kv_mp]
  exact k p (keys m) _ (fun w hw => num_none hw) (by unfold keys; rw [List.length_map]; exact h2) (S.new hp)
theorem pk_md (h1 : (keys m).Nodup) (h2 : m.length ≤ n) (h3 : num m = F) (S : Sep (At d (.dK (mp m)) :: l) H) : Sep (Md d F n :: l) H := md_close h1 h2 h3 S
end
local macro_rules | `(tactic| walk_at "v1") => `(tactic| (first
  | ((with_reducible refine' ld_md (by assumption) ?hi ?_); (case hi => walk_at "has"); intro _ _ _ _ _ _)
  | ((with_reducible refine' e_isdM (by assumption) ?hi ?_); (case hi => walk_at "has"))
  | ((with_reducible refine' e_get0M (by assumption) ?hi ?_); (case hi => walk_at "has"); (refine fun o ho => ?_); rw [ho]; clear ho)))
/-- m has F of the words ws alone -/
def Mw (F : Str → Int) (ws : List Str) (m : List (Str × Int)) : Prop := (keys m).Nodup ∧ m.length ≤ ws.length ∧ ∀ w, num m w = if w ∈ ws then F w else 0
theorem Mw.nil {F : Str → Int} : Mw F [] [] := ⟨List.nodup_nil, Nat.le_refl _, fun w => by rw [if_neg (fun z => nomatch z)]; rfl⟩
theorem Mw.put {F : Str → Int} {ws : List Str} {m : List (Str × Int)} (h : Mw F ws m) (w : Str) : Mw F (ws ++ [w]) (mput m w (F w)) := by
  refine ⟨nodup_put h.1 _ _, Nat.le_trans (len_put _ _ _) (by rw [List.length_append]; exact Nat.succ_le_succ h.2.1), fun v => ?_⟩
  rw [num_put, h.2.2]
  by_cases e : v = w
  · rw [if_pos e, if_pos (List.mem_append_right _ (List.mem_singleton.2 e)), e]
  · rw [if_neg e]
    by_cases hv : v ∈ ws
    · rw [if_pos hv, if_pos (List.mem_append_left _ hv)]
    · rw [if_neg hv, if_neg fun z => (List.mem_append.1 z).elim hv fun z => e (List.mem_singleton.1 z)]
theorem Mw.all {F : Str → Int} {ws : List Str} {m : List (Str × Int)} (h : Mw F ws m) (k : ∀ w, w ∉ ws → F w = 0) : num m = F := funext fun w => by
  rw [h.2.2]
  by_cases hw : w ∈ ws
  · rw [if_pos hw]
  · rw [if_neg hw, k w hw]
theorem psum_bound {ps : List (Str × Int)} (h : Gp ps) (w : Str) : (psum ps w).natAbs ≤ ps.length * 10 ^ 30 := by
  induction ps with
  | nil => exact Nat.zero_le _
  | cons x ps ih =>
    have ih := ih fun y hy => h y (List.mem_cons_of_mem _ hy)
    have hx := (h x List.mem_cons_self).2
    show ((if x.1 = w then x.2 else 0) + psum ps w).natAbs ≤ (ps.length + 1) * 10 ^ 30
    have h1 : (if x.1 = w then x.2 else 0).natAbs ≤ 10 ^ 30 := by
      split
      · omega
      · exact Nat.zero_le _
    have h2 := Int.natAbs_add_le (if x.1 = w then x.2 else 0) (psum ps w)
    rw [Nat.add_mul, Nat.one_mul]
    omega
theorem psum_big {ps : List (Str × Int)} (h : Gp ps) (hz : ps.length ≤ 1000) (w : Str) : (psum ps w).natAbs < 2 ^ 900 := by
  have h1 := psum_bound h w
  have h2 : ps.length * 10 ^ 30 ≤ 1000 * 10 ^ 30 := Nat.mul_le_mul_right _ hz
  have h3 : 1000 * 10 ^ 30 < 2 ^ 900 := by decide +kernel
  omega
theorem SepF.inv {A : Asn} {l : List Asn} {g : Addr → Prop} {H : Hp} (S : SepF (A :: l) g H) : ∃ f g', A.h f H ∧ SepF l g' H ∧ ∀ a, g a ↔ (f a ∨ g' a) := by
  cases S with
  | cons h S d => exact ⟨_, _, h, S, fun _ => Iff.rfl⟩
theorem co_ne_md {l : List Asn} {H : Hp} {i j : Nat} {p C d : Addr} {g F : Str → Int} {n : Nat} (S : Sep l H) (e : l[i]? = some (Co p C g)) (e2 : l[j]? = some (Md d F n)) : i ≠ j := by
  intro h
  subst h
  have e3 := Option.some.inj (e.symm.trans e2)
  obtain ⟨f, hf⟩ := S.get e
  have hf2 : (Md d F n).h f H := e3 ▸ hf
  obtain ⟨x, hs⟩ := hf
  obtain ⟨f1, g1, _, hs, k1⟩ := SepF.inv (show SepF _ f H from hs)
  obtain ⟨f2, g2, ho, _, k2⟩ := hs.inv
  obtain ⟨dx, ho⟩ := ho
  obtain ⟨f3, g3, hp, _, k3⟩ := SepF.inv (show SepF _ f2 H from ho)
  have hp' : H p = some _ ∧ ∀ a, f3 a ↔ a = p := hp
  have fp : f p := (k1 p).2 (.inr ((k2 p).2 (.inl ((k3 p).2 (.inl ((hp'.2 p).2 rfl))))))
  obtain ⟨m, hm⟩ := hf2
  obtain ⟨f4, g4, hpu, hm, k4⟩ := SepF.inv (show SepF _ f H from hm)
  obtain ⟨f5, g5, hd, hm, k5⟩ := hm.inv
  have hpu' : _ ∧ ∀ a, ¬ f4 a := hpu
  have hd' : H d = some (.dK (mp m)) ∧ ∀ a, f5 a ↔ a = d := hd
  rcases (k4 p).1 fp with z | z
  · exact hpu'.2 p z
  · rcases (k5 p).1 z with z | z
    · have e5 := (hd'.2 p).1 z
      rw [← e5, hp'.1] at hd'
      exact nomatch hd'.1
    · cases hm
      exact z
/-! ### dict(d), C.m(..), lists of texts compared -/
def gDictD (xs : List V) (H : Hp) (Q : VK) : Prop := ∃ (a : Addr) (kvs : List (Key × V)), xs = [.ref a] ∧ Rd H a (.dK kvs) ∧ ∀ p, H p = Option.none → Q (.ref p) (upd H p (.dK kvs))
theorem call_gDictD {X : Cx} : CallR X (.type "dict") gDictD := call_dictD
theorem dd_mp {l : List Asn} {H : Hp} {d : Addr} {m : List (Str × Int)} {e : Nat} {Q : VK} (S : Sep l H) (hi : l[e]? = some (At d (.dK (mp m)))) (k : ∀ p H', Sep (At p (.dK (mp m)) :: l) H' → Q (.ref p) H') : gDictD [.ref d] H Q :=
  ⟨d, mp m, rfl, .inl (S.at hi), fun p hp => k p _ (S.new hp)⟩
local macro_rules | `(tactic| walk_at "v1") => `(tactic| ((with_reducible refine' dd_mp (by assumption) ?hi ?_); (case hi => walk_at "has"); intro _ _ _))
theorem r_cmethC {σ : L2.St} {H : Hp} {C : Addr} {sp : Sp} {E : XK} {t : TA} {Q : VK} (q : t σ H fun vs H2 => sp (.ref C :: vs) H2 Q E) : ClX.tCMeth C sp E (tC (.ref C)) t σ H Q := ⟨rfl, q⟩
local macro_rules | `(tactic| walk_at "v1") => `(tactic| (with_reducible refine r_cmethC ?_))
theorem ne_lss {l : List Asn} {H : Hp} {p p2 : Addr} {K : PySem.W.Frag} {Q : VK} {e e2 : Nat} {ws us : List Str} (S : Sep l H) (hi : l[e]? = some (At p (.lst (ws.map V.str)))) (hj : l[e2]? = some (At p2 (.lst (us.map V.str)))) (h1 : ∀ w ∈ ws, Wd w) (h2 : ∀ w ∈ us, Wd w) (q : Q (.bl (!decide (ws = us))) H) : gNe K (.ref p) (.ref p2) H Q :=
  .inr ⟨.list (dStrs ws), .list (dStrs us), .lst (SqL.of (S.at hi)) (dp_strs ws), .lst (SqL.of (S.at hj)) (dp_strs us), shaped_lst (flat_dstrs h1), shaped_lst (flat_dstrs h2), by rw [PyData.eqv, eqv_dstrs]; exact q⟩
theorem cut_lastV (xs : List V) (v : V) : cutV (xs ++ [v]) none (some (-1)) = xs := by
  unfold cutV
  have e1 : HT.sIx (xs.length + 1) (xs.length + 1) (some (-1)) = xs.length := by
    unfold HT.sIx
    simp
    try omega
  have e0 : HT.sIx (xs.length + 1) 0 none = 0 := rfl
  rw [show (xs ++ [v]).length = xs.length + 1 by simp, e1, e0]
  simp
/-! ### the truth of a bool -/
theorem r_tr {K : PySem.W.Frag} {ta : TE} {σ : L2.St} {H : Hp} {Q : Bool → Hp → Prop} (q : ta σ H fun x H' => ∃ k, TruV K x H' k ∧ Q k H') : tTr K ta σ H Q := q
theorem tr_bl {K : PySem.W.Frag} {H : Hp} {b : Bool} {R : Bool → Prop} (q : R b) : ∃ k, TruV K (.bl b) H k ∧ R k := ⟨b, rfl, q⟩
local macro_rules | `(tactic| walk_at "v1") => `(tactic| (first
  | with_reducible refine r_tr ?_
  | with_reducible refine tr_bl ?_))
/-! ### rows -/
theorem SepF.perm {l l' : List Asn} {H : Hp} (h : l.Perm l') : ∀ {g : Addr → Prop}, SepF l g H → SepF l' g H := by
  induction h with
  | nil => exact fun S => S
  | cons A _ ih =>
    intro g S
    cases S with
    | cons h S d => exact .cons h (ih S) d
  | swap A B l =>
    intro g S
    exact S.pick (i := 1) rfl
  | trans _ _ h1 h2 => exact fun S => h2 (h1 S)
theorem Sep.perm {l l' : List Asn} {H : Hp} (S : Sep l H) (h : l.Perm l') : Sep l' H := S.imp fun _ q => q.perm h
/-- a row: new counts with the numbers F, beside a dict -/
structure Rx where
  q : Addr
  d : Addr
  F : Str → Int
def Rw (C : Addr) (r : Rx) : Asn := Exs fun p : Addr => Pk [Tp r.q [.ref p, .ref r.d], Co p C r.F]
theorem rw_close {C p : Addr} {r : Rx} {l : List Asn} {H : Hp} (S : Sep (Tp r.q [.ref p, .ref r.d] :: Co p C r.F :: l) H) : Sep (Rw C r :: l) H := Sep.ex' (x := p) (Sep.close' (l := [_, _]) S)
theorem rw_open {C : Addr} {r : Rx} {l : List Asn} {H : Hp} (S : Sep (Rw C r :: l) H) : ∃ p, Sep (Tp r.q [.ref p, .ref r.d] :: Co p C r.F :: l) H := by
  obtain ⟨p, S⟩ := S.ex
  exact ⟨p, S.open'⟩
/-- the rows rs in a list at L; their dicts are in fr -/
def Rows (C L : Addr) (rs : List Rx) (fr : List Asn) (H : Hp) : Prop := rs.length ≤ 60 ∧ (∀ r ∈ rs, ∃ (t n : Nat), n < 64 ∧ fr[t]? = some (Md r.d r.F n)) ∧ Sep (At L (.lst (rs.map fun r => V.ref r.q)) :: (rs.map (Rw C) ++ fr)) H
theorem Rows.add {C L : Addr} {rs news : List Rx} {ms fr : List Asn} {H : Hp} (hz : (rs ++ news).length ≤ 60) (h0 : ∀ r ∈ rs, ∃ (t n : Nat), n < 64 ∧ fr[t]? = some (Md r.d r.F n)) (h1 : ∀ r ∈ news, ∃ (t n : Nat), n < 64 ∧ (ms ++ fr)[t]? = some (Md r.d r.F n))
    (S : Sep (At L (.lst (rs.map (fun r => V.ref r.q) ++ news.map fun r => V.ref r.q)) :: (news.map (Rw C) ++ (ms ++ (rs.map (Rw C) ++ fr)))) H) : Rows C L (rs ++ news) (ms ++ fr) H := by
  refine ⟨hz, fun r hr => ?_, ?_⟩
  · rcases List.mem_append.1 hr with hr | hr
    · obtain ⟨t, n, hn, e⟩ := h0 r hr
      exact ⟨ms.length + t, n, hn, by rw [List.getElem?_append_right (by omega), Nat.add_sub_cancel_left]; exact e⟩
    · exact h1 r hr
  · rw [← List.map_append] at S
    refine S.perm (List.Perm.cons _ ?_)
    rw [List.map_append, List.append_assoc]
    have e1 : (List.map (Rw C) news ++ (ms ++ (List.map (Rw C) rs ++ fr))).Perm (List.map (Rw C) news ++ (List.map (Rw C) rs ++ (ms ++ fr))) :=
      List.Perm.append_left _ (by rw [← List.append_assoc, ← List.append_assoc]; exact List.Perm.append_right _ List.perm_append_comm)
    refine e1.trans ?_
    rw [← List.append_assoc, ← List.append_assoc (List.map (Rw C) rs)]
    exact List.Perm.append_right _ List.perm_append_comm
theorem app_get {l fr : List Asn} {i : Nat} {A : Asn} (h : fr[i]? = some A) : (l ++ fr)[l.length + i]? = some A := by
  rw [List.getElem?_append_right (by omega), Nat.add_sub_cancel_left]; exact h
theorem packs {C : Addr} {H : Hp} : ∀ (ps : List (Addr × Rx)) (X : Asn) (l : List Asn), Sep ((ps.flatMap fun x => [Tp x.2.q [.ref x.1, .ref x.2.d], Co x.1 C x.2.F]) ++ X :: l) H → Sep (X :: ((ps.map fun x => Rw C x.2) ++ l)) H
  | [], _, _, S => S
  | x :: ps, X, l, S => by
    have S1 : Sep (Rw C x.2 :: ((ps.flatMap fun x => [Tp x.2.q [.ref x.1, .ref x.2.d], Co x.1 C x.2.F]) ++ X :: l)) H := rw_close S
    have S2 : Sep ((ps.flatMap fun x => [Tp x.2.q [.ref x.1, .ref x.2.d], Co x.1 C x.2.F]) ++ X :: (Rw C x.2 :: l)) H := S1.perm (by
      refine List.perm_middle.symm.trans (List.Perm.append_left _ (List.Perm.swap _ _ _))
      )
    have S3 := packs ps X (Rw C x.2 :: l) S2
    refine S3.perm (List.Perm.cons _ ?_)
    exact List.perm_middle
theorem Sep.dropAt {l : List Asn} {H : Hp} (S : Sep l H) (i : Nat) : Sep (l.eraseIdx i) H := by
  by_cases h : i < l.length
  · exact (S.pick (List.getElem?_eq_getElem h)).tail
  · rw [List.eraseIdx_of_length_le (by omega)]; exact S
def drops : List Nat → List Asn → List Asn
  | [], l => l
  | i :: is, l => drops is (l.eraseIdx i)
theorem Sep.drops {H : Hp} : ∀ (is : List Nat) {l : List Asn}, Sep l H → Sep (Y.drops is l) H
  | [], _, S => S
  | i :: is, _, S => Sep.drops is (S.dropAt i)
/-! ### rows with a dict each -/
def Rv (C : Addr) (r : Rx) : Asn := Exs fun p : Addr => Pk [Tp r.q [.ref p, .ref r.d], Co p C r.F, Md r.d r.F 30]
theorem rv_close {C p : Addr} {r : Rx} {l : List Asn} {H : Hp} (S : Sep (Tp r.q [.ref p, .ref r.d] :: Co p C r.F :: Md r.d r.F 30 :: l) H) : Sep (Rv C r :: l) H := Sep.ex' (x := p) (Sep.close' (l := [_, _, _]) S)
theorem rv_open {C : Addr} {r : Rx} {l : List Asn} {H : Hp} (S : Sep (Rv C r :: l) H) : ∃ p, Sep (Tp r.q [.ref p, .ref r.d] :: Co p C r.F :: Md r.d r.F 30 :: l) H := by
  obtain ⟨p, S⟩ := S.ex
  exact ⟨p, S.open'⟩
theorem packv {C : Addr} {H : Hp} : ∀ (ps : List (Addr × Rx)) (X : Asn) (l : List Asn), Sep ((ps.flatMap fun x => [Tp x.2.q [.ref x.1, .ref x.2.d], Co x.1 C x.2.F, Md x.2.d x.2.F 30]) ++ X :: l) H → Sep (X :: ((ps.map fun x => Rv C x.2) ++ l)) H
  | [], _, _, S => S
  | x :: ps, X, l, S => by
    have S1 : Sep (Rv C x.2 :: ((ps.flatMap fun x => [Tp x.2.q [.ref x.1, .ref x.2.d], Co x.1 C x.2.F, Md x.2.d x.2.F 30]) ++ X :: l)) H := rv_close S
    have S2 : Sep ((ps.flatMap fun x => [Tp x.2.q [.ref x.1, .ref x.2.d], Co x.1 C x.2.F, Md x.2.d x.2.F 30]) ++ X :: (Rv C x.2 :: l)) H := S1.perm (List.perm_middle.symm.trans (List.Perm.append_left _ (List.Perm.swap _ _ _)))
    exact (packv ps X (Rv C x.2 :: l) S2).perm (List.Perm.cons _ List.perm_middle)
/-- the rows rs in a list at L -/
def Rovs (C L : Addr) (rs : List Rx) (fr : List Asn) (H : Hp) : Prop := Sep (At L (.lst (rs.map fun r => V.ref r.q)) :: (rs.map (Rv C) ++ fr)) H
theorem Rovs.add {C L : Addr} {rs news : List Rx} {fr : List Asn} {H : Hp} (S : Sep (At L (.lst (rs.map (fun r => V.ref r.q) ++ news.map fun r => V.ref r.q)) :: (news.map (Rv C) ++ (rs.map (Rv C) ++ fr))) H) : Rovs C L (rs ++ news) fr H := by
  unfold Rovs
  rw [← List.map_append] at S
  refine S.perm (List.Perm.cons _ ?_)
  rw [List.map_append, ← List.append_assoc]
  exact List.Perm.append_right _ List.perm_append_comm

/-! dicts by their numbers, their keys among given words -/
def Mq (d : Addr) (F : Str → Int) (ws : List Str) : Asn := Exs fun m : List (Str × Int) => Pk [pure' ((keys m).Nodup ∧ (∀ w ∈ keys m, w ∈ ws) ∧ num m = F), At d (.dK (mp m))]
/-- all numbers are of these words -/
def On (F : Str → Int) (ws : List Str) : Prop := ∀ w, w ∉ ws → F w = 0
theorem On.sz {F : Str → Int} {ws : List Str} {n : Nat} (h : On F ws) (k : ws.length ≤ n) : Sz F n := ⟨ws, k, fun w z => Classical.byContradiction fun y => z (h w y)⟩
theorem On.map {F G : Str → Int} {ws : List Str} (h : On F ws) (k : ∀ w, F w = 0 → G w = 0) : On G ws := fun w z => k w (h w z)
theorem On.two {F G J : Str → Int} {ws : List Str} (h : On F ws) (h2 : On G ws) (k : ∀ w, F w = 0 → G w = 0 → J w = 0) : On J ws := fun w z => k w (h w z) (h2 w z)
theorem On.put {F : Str → Int} {ws : List Str} (h : On F ws) (v : Str) (x : Int) : On (fun w => if w = v then x else F w) (v :: ws) := fun w z => by
  show (if w = v then x else F w) = 0
  rw [if_neg (fun e => z (by rw [e]; exact List.mem_cons_self))]
  exact h w fun y => z (List.mem_cons_of_mem _ y)
theorem On.sub {F : Str → Int} {ws us : List Str} (h : On F ws) (k : ∀ w ∈ ws, w ∈ us) : On F us := fun w z => h w fun y => z (k w y)
theorem on_psum (ps : List (Str × Int)) : On (psum ps) (keys ps) := fun w h => by
  induction ps with
  | nil => rfl
  | cons x ps ih =>
    show (if x.1 = w then x.2 else 0) + psum ps w = 0
    rw [if_neg (fun e => h (by rw [← e]; exact List.mem_cons_self)), ih fun z => h (List.mem_cons_of_mem _ z)]; rfl
section
variable {l : List Asn} {H : Hp} {d : Addr} {F : Str → Int} {ws us : List Str} {m : List (Str × Int)} {i : Nat} {n : Nat}
theorem mq_open (S : Sep (Mq d F ws :: l) H) : ∃ m, (keys m).Nodup ∧ (∀ w ∈ keys m, w ∈ ws) ∧ num m = F ∧ Sep (At d (.dK (mp m)) :: l) H := by
  obtain ⟨m, S⟩ := S.ex
  obtain ⟨⟨h1, h2, h3⟩, S⟩ := (S.open').pure
  exact ⟨m, h1, h2, h3, S⟩
theorem mq_close (h1 : (keys m).Nodup) (h2 : ∀ w ∈ keys m, w ∈ ws) (h3 : num m = F) (S : Sep (At d (.dK (mp m)) :: l) H) : Sep (Mq d F ws :: l) H :=
  Sep.ex' (x := m) (Sep.close' (l := [_, _]) (Sep.pure_in ⟨h1, h2, h3⟩ S))
theorem Sep.mq (S : Sep l H) (e : l[i]? = some (Mq d F ws)) : ∃ m, (keys m).Nodup ∧ (∀ w ∈ keys m, w ∈ ws) ∧ num m = F ∧ Sep (At d (.dK (mp m)) :: l.eraseIdx i) H := mq_open (S.pick e)
theorem Sep.mqBack (e : l[i]? = some (Mq d F ws)) (h1 : (keys m).Nodup) (h2 : ∀ w ∈ keys m, w ∈ ws) (h3 : num m = F) (S : Sep (At d (.dK (mp m)) :: l.eraseIdx i) H) : Sep l H := Sep.backS e (mq_close h1 h2 h3 S)
theorem Sep.mqAt (S : Sep l H) (e : l[i]? = some (Mq d F ws)) : ∃ m, (keys m).Nodup ∧ (∀ w ∈ keys m, w ∈ ws) ∧ num m = F ∧ H d = some (.dK (mp m)) := by
  obtain ⟨m, h1, h2, h3, S⟩ := S.mq e
  exact ⟨m, h1, h2, h3, S.at (i := 0) rfl⟩
theorem keys_le (h1 : (keys m).Nodup) (h2 : ∀ w ∈ keys m, w ∈ ws) : m.length ≤ ws.length := by
  have := len_sub h1 h2
  unfold keys at this
  rwa [List.length_map] at this
theorem Mq.on (S : Sep l H) (e : l[i]? = some (Mq d F ws)) : On F ws := by
  obtain ⟨m, _, h2, h3, _⟩ := S.mqAt e
  subst h3
  exact fun w hw => num_none fun z => hw (h2 w z)
theorem mq_sub (k : ∀ w ∈ ws, w ∈ us) (S : Sep (Mq d F ws :: l) H) : Sep (Mq d F us :: l) H := by
  obtain ⟨m, h1, h2, h3, S⟩ := mq_open S
  exact mq_close h1 (fun w hw => k w (h2 w hw)) h3 S
theorem e_isdQ {R : Addr → Prop} (S : Sep l H) (hi : l[i]? = some (Mq d F ws)) (q : R d) : ∃ a, V.ref d = .ref a ∧ L2.IsD H a ∧ R a := by
  obtain ⟨m, _, _, _, h⟩ := S.mqAt hi
  exact ⟨d, rfl, .inl ⟨mp m, .inl h⟩, q⟩
theorem e_get0Q {w : Str} {R : Option V → Prop} (S : Sep l H) (hi : l[i]? = some (Mq d F ws)) (q : ∀ o : Option V, o.getD (.int 0) = .int (F w) → R o) : ∃ o, DGet H d (.str w) o ∧ R o := by
  obtain ⟨m, _, _, h3, h⟩ := S.mqAt hi
  subst h3
  exact get0_of (.inl h) q
theorem ld_mq {Q : VK} (S : Sep l H) (hi : l[i]? = some (Mq d F ws)) (k : ∀ (p : Addr) (ks : List Str) (H' : Hp), On F ks → (∀ w ∈ ks, w ∈ ws) → ks.Nodup → Sep (At p (.lst (ks.map V.str)) :: l) H' → Q (.ref p) H') : gListD [.ref d] H Q := by
  obtain ⟨m, h1, h2, h3, h⟩ := S.mqAt hi
  subst h3
  refine ⟨d, mp m, rfl, .inl h, fun p hp => ?_⟩
  rw [kv_mp]
  exact k p (keys m) _ (fun w hw => num_none hw) h2 h1 (S.new hp)
theorem c_lenQ {K : PySem.W.Frag} {Q : VK} (S : Sep l H) (hi : l[i]? = some (Mq d F ws)) (k : ∀ n : Nat, n ≤ ws.length → Q (.int (n : Nat)) H) : gLen K [.ref d] H Q := by
  obtain ⟨m, h1, h2, h3, h⟩ := S.mqAt hi
  refine .inr ⟨d, mp m, rfl, h, ?_⟩
  have := k m.length (keys_le h1 h2)
  rwa [← List.length_map (f := fun x : Str × Int => ((Sum.inr x.1 : Key), V.int x.2))] at this
end
local macro_rules | `(tactic| walk_at "v1") => `(tactic| (first
  | ((with_reducible refine' ld_mq (by assumption) ?hi ?_); (case hi => walk_at "has"); intro _ _ _ _ _ _ _)
  | ((with_reducible refine' e_isdQ (by assumption) ?hi ?_); (case hi => walk_at "has"))
  | ((with_reducible refine' e_get0Q (by assumption) ?hi ?_); (case hi => walk_at "has"); (refine fun o ho => ?_); rw [ho]; clear ho)))
/-- words taken from both, put one by one -/
theorem keys_put_in {m : List (Str × Int)} {w : Str} {n : Int} {ws : List Str} (h : ∀ v ∈ keys m, v ∈ ws) (hw : w ∈ ws) : ∀ v ∈ keys (mput m w n), v ∈ ws := fun v hv => (mem_put hv).elim (fun e => e ▸ hw) (h v)
/-! a, b = x, y -/
section
variable {σ : L2.St} {H : Hp} {ta : TA} {i j : Nat} {nx bk ct : L2.St → Hp → Prop} {rt : VK} {a b c : V} {R : V → V → Prop}
theorem r_par (q : ta σ H fun vs H1 => ∃ v w, vs = [v, w] ∧ nx ((σ.set i (some v)).set j (some w)) H1) : tPar i j ta ⟨nx, rt, bk, ct⟩ σ H := q
theorem e_par (q : R a b) : ∃ v w, [a, b] = [v, w] ∧ R v w := ⟨a, b, rfl, q⟩
end
local macro_rules | `(tactic| walk_at "v1") => `(tactic| (first
  | with_reducible refine r_par ?_
  | with_reducible refine r_aug rfl ?_
  | with_reducible refine e_par ?_))
/-! ### places by a number, one assertion for another, all of them weaker -/
theorem ixN_in {k : Nat} {n : Int} (h0 : 0 ≤ n) (h1 : n < k) : ixN k n = some n.toNat := by
  unfold ixN
  rw [if_pos h0, if_pos h1]
inductive Weak (H : Hp) : List Asn → List Asn → Prop
  | nil : Weak H [] []
  | cons {A B : Asn} {l l' : List Asn} : (∀ f, A.h f H → B.h f H) → Weak H l l' → Weak H (A :: l) (B :: l')
section
variable {l l' : List Asn} {H : Hp} {A B : Asn} {i : Nat} {p : Addr} {xs : List V} {v : V} {n : Int}
theorem w_lstI {e : Nat} {R : Hp → Prop} (S : Sep l H) (hi : l[e]? = some (At p (.lst xs))) (h0 : 0 ≤ n) (h1 : n < xs.length) (k : ∀ H', Sep (l.set e (At p (.lst (xs.set n.toNat v)))) H' → R H') : rSetL (.ref p) (.int n) v H R :=
  w_lst S hi (ixN_in h0 h1) k
theorem Sep.swapIn (S : Sep (B :: l) H) (e : l[i]? = some A) : Sep (l.set i B) H := Sep.back e (S.pick (i := i + 1) (l := B :: l) e).tail
theorem SepF.imp (h : Weak H l l') : ∀ {g : Addr → Prop}, SepF l g H → SepF l' g H := by
  induction h with
  | nil => exact fun S => S
  | cons h _ ih =>
    intro g S
    cases S with
    | cons a S d => exact .cons (h _ a) (ih S) d
theorem Sep.imp (h : Weak H l l') (S : Sep l H) : Sep l' H := by
  obtain ⟨g, S⟩ := S
  exact ⟨g, S.imp h⟩
theorem all2_refl : ∀ (l : List Asn), Weak H l l
  | [] => .nil
  | _ :: l => .cons (fun _ h => h) (all2_refl l)
theorem all2_app {a b c d : List Asn} (h1 : Weak H a b) (h2 : Weak H c d) : Weak H (a ++ c) (b ++ d) := by
  induction h1 with
  | nil => exact h2
  | cons h _ ih => exact .cons h ih
theorem all2_map {α : Type} {f g : α → Asn} (h : ∀ x u, (f x).h u H → (g x).h u H) : ∀ (xs : List α), Weak H (xs.map f) (xs.map g)
  | [] => .nil
  | x :: xs => .cons (h x) (all2_map h xs)
theorem mq_weak {d : Addr} {F : Str → Int} {ws us : List Str} (k : ∀ w ∈ ws, w ∈ us) {f : Addr → Prop} (h : (Mq d F ws).h f H) : (Mq d F us).h f H := by
  obtain ⟨m, h⟩ := h
  have h : SepF [pure' ((keys m).Nodup ∧ (∀ w ∈ keys m, w ∈ ws) ∧ num m = F), At d (.dK (mp m))] f H := h
  cases h with
  | @cons _ _ f1 g1 _ a S dd => exact ⟨m, SepF.cons (A := pure' ((keys m).Nodup ∧ (∀ w ∈ keys m, w ∈ us) ∧ num m = F)) ⟨⟨a.1.1, fun w hw => k w (a.1.2.1 w hw), a.1.2.2⟩, a.2⟩ S dd⟩
theorem e_putQ {d : Addr} {F : Str → Int} {ws : List Str} {w : Str} {R : Hp → Prop} (S : Sep l H) (hi : l[i]? = some (Mq d F ws)) (hw : w ∈ ws) (hz : ws.length ≤ 1000) (k : ∀ H', Sep (l.set i (Mq d (fun v => if v = w then n else F v) ws)) H' → R H') : ∃ a H4, V.ref d = .ref a ∧ DPut H a (.str w) (.int n) H4 ∧ R H4 := by
  obtain ⟨m, h1, h2, h3, S1⟩ := S.mq hi
  subst h3
  have h4 := keys_le h1 h2
  refine e_putI S1 (e := 0) rfl h1 (by omega) fun H' S' => k H' (Sep.back hi (mq_close (nodup_put h1 w n) (keys_put_in h2 hw) (funext fun v => num_put m w n v) S'))
theorem dd_mq {d : Addr} {F : Str → Int} {ws : List Str} {Q : VK} (S : Sep l H) (hi : l[i]? = some (Mq d F ws)) (k : ∀ p H', Sep (Mq p F ws :: l) H' → Q (.ref p) H') : gDictD [.ref d] H Q := by
  obtain ⟨m, h1, h2, h3, h⟩ := S.mqAt hi
  exact ⟨d, mp m, rfl, .inl h, fun p hp => k p _ (mq_close h1 h2 h3 (S.new hp))⟩
end

/-! own == and != beside a value of another class; repr by an own __repr__ -/
section
open PyProof.Rows
section
variable {X : Cx} {CX : CXT} {n : Nat} {f C : Addr} {sp : Sp} {E : XK} {K : PySem.W.Frag}
def rCmpX (K : PySem.W.Frag) (C : Addr) (sp : Sp) (E : XK) : R2 := fun x y H Q => ∃ a dx fs t, x = V.ref a ∧ H a = some (.ins C dx fs) ∧ TyX K H y t ∧ PySem.W.notFirst K C t = true ∧ sp [x, y] H Q E
theorem op_ownCmpX {op : CmpOp} (hK : X.K = K) (hop : ∀ a b, compareOp op a b = richCompare op a b) (hm : Meth X.K C (cmpInfo op).2.1 f) (F : FnR X.prog X.w X.K X.mg X.base CX n f sp) (hr : Room n X.A) (hx : Passes CX X E) : OpR X (compareOp op) (rCmpX K C sp E) := by
  intro pins s σ H x y v u Q I rx ry h
  subst hK
  obtain ⟨a, dx, fs, t, rfl, ha, ht, hs, q⟩ := h
  cases (show v = Value.ref a from rx)
  obtain ⟨ox, od, J⟩ := ins_inst I ha
  obtain ⟨m, hF⟩ := I.fr
  obtain ⟨P, KX, hP, _⟩ := kit_of I ry ht
  rw [hop]
  refine PySem.W.cmp_K (op := op) (tb := t) hr.units0 hF I.ok.mod.kin J (KX.ty _ _ (I.ok.mod.kin.keeps hF.keep) hP) hs hm.at_ hm.fn ?_
  refine wpAny_mono (wpAny_call (run_fnR (us := [.ref a, u]) (vs := [.ref a, y]) F hr hx I (.cons rfl (.cons ry .nil)) q)) (fun w s' z => ?_) fun _ _ x => x
  obtain ⟨z', H', I', rz, qz⟩ := z
  exact SlX.cmpback rz ⟨z', H', I', rz, qz⟩
def rNeX (K : PySem.W.Frag) (C : Addr) (sp : Sp) (E : XK) : R2 := fun x y H Q => ∃ a dx fs t, x = V.ref a ∧ H a = some (.ins C dx fs) ∧ TyX K H y t ∧ PySem.W.notFirst K C t = true ∧ sp [x, y] H (fun z H' => ∃ c : Bool, z = .bl c ∧ Q (.bl (!c)) H') E
theorem op_ownNeX (hK : X.K = K) (hne : PySem.W.findIn X.K (.ref C) "__ne__" = some (some (.builtin "object.__ne__"))) (hob : PySem.W.mroIn X.K C (.type "object") = some true) (hm : Meth X.K C (Str.ofString "__eq__") f) (F : FnR X.prog X.w X.K X.mg X.base CX n f sp) (hr : Room (n + 1) X.A) (hu : X.A.units + 64 < cLine) (hx : Passes CX X E) :
    OpR X (compareOp .NotEq) (rNeX K C sp E) := by
  intro pins s σ H x y v u Q I rx ry h
  subst hK
  obtain ⟨a, dx, fs, t, rfl, ha, ht, hs, q⟩ := h
  cases (show v = Value.ref a from rx)
  obtain ⟨ox, od, J⟩ := ins_inst I ha
  obtain ⟨m, hF⟩ := I.fr
  obtain ⟨P, KX, hP, _⟩ := kit_of I ry ht
  have XK := I.ok.mod.kin.keeps hF.keep
  have hb := KX.ty (model X.prog X.w) _ XK hP
  have entry : wpAny (model X.prog X.w) X.A.in1 (Builtin.«object.__ne__» ⟨[.ref a, u], []⟩) (fun r s' => ∃ w, r = .done (.ret w) ∧ (w ≠ .notImplemented ∧ EP X pins σ Q w s')) X.xe s := by
    unfold Builtin.«object.__ne__»
    repeat (first
      | with_reducible refine wpAny_cRoomFor (show X.A.in1.units < cLine by show X.A.units + 1 < cLine; omega) ?_
      | (refine wpAny_bind (m := callSpecialIfBound? (.ref a) (Str.ofString "__eq__") [u]) (PySem.W.ifBound_K XK J hm.at_ hm.fn
          (wpAny_mono (wpAny_call (SlX.run_at (us := [.ref a, u]) (ws := [.ref a, y]) F (show Room n X.A.in1 from Room.in1 hr) I.env0.in1 hx I (.cons rfl (.cons ry .nil)) q)) (fun w s' z => by
            obtain ⟨z', H', I', rz, c, ez, qz⟩ := z
            subst ez
            cases (show w = Value.bool c from rz)
            repeat (first | exact ⟨_, rfl, nofun, .bl (!c), H', I', rfl, qz⟩ | exact wpAny_pure ⟨_, rfl, nofun, .bl (!c), H', I', rfl, qz⟩ | (refine wpAny_bind (m := truthy (.bool _)) (wpAny_truthy_bool ?_)) | wp_step)) fun _ _ e => e)))
      | wp_step)
  have one : wpAny (model X.prog X.w) X.A (tryCompare (.ref a) "__ne__" u) (fun r s' => ∃ w, r = some w ∧ EP X pins σ Q w s') X.xe s := by
    unfold tryCompare
    refine wpAny_bind (ifBound_objNe XK J hne ?_)
    refine wpAny_call (codeAny_call_builtin PySem.F.cmp_object.ne.plain PySem.F.cmpEntry_ne (PySem.W.check_slot PySem.F.cmpKind_ne PySem.F.cmpSplit_ne (J.type.andThen (PySem.W.looks_mroIn XK hob)) (PySem.F.cmpArgs_ne _ _) (wpAny_mono entry (fun r s' z => ?_) fun _ _ e => e)))
    obtain ⟨w, rfl, hw, ep⟩ := z
    cases w <;> first | exact (hw rfl).elim | exact wpAny_pure ⟨_, rfl, ep⟩
  show wpAny _ _ (richCompare .NotEq (.ref a) u) _ _ _
  unfold richCompare
  simp only [oneThing_ref]
  refine wpAny_holding (wpAny_bind (wpAny_cRoomFor (by omega) ?_))
  refine wpAny_bind (J.type.here (wpAny_bind (hb.here ?_)))
  split
  · rename_i q
    have e : PySem.W.subIn X.K t (.ref C) = some false := by
      rcases Bool.or_eq_true_iff.mp hs with e | e
      · rw [beq_iff_eq.mp e] at q; simp at q
      · exact beq_iff_eq.mp e
    refine wpAny_bind ((PySem.W.looks_subIn XK e).here ?_)
    simp only [Bool.false_eq_true, if_false]
    refine wpAny_bind (m := tryCompare (.ref a) _ u) (wpAny_mono one (fun r s' z => ?_) fun _ _ e => e)
    obtain ⟨w, rfl, ep⟩ := z
    exact wpAny_pure ep
  · refine wpAny_bind (wpAny_pure ?_)
    simp only [Bool.false_eq_true, if_false]
    refine wpAny_bind (m := tryCompare (.ref a) _ u) (wpAny_mono one (fun r s' z => ?_) fun _ _ e => e)
    obtain ⟨w, rfl, ep⟩ := z
    exact wpAny_pure ep
/-- repr(o) by an own __repr__ -/
def rReprOwn (C : Addr) (sp : Sp) (E : XK) : List V → Hp → VK → Prop := fun xs H Q => ∃ a dx fs, xs = [V.ref a] ∧ H a = some (.ins C dx fs) ∧ sp [V.ref a] H (fun z H' => ∃ y : Str, z = .str y ∧ Q z H') E
theorem call_ownRepr (hm : Meth X.K C (Str.ofString "__repr__") f) (F : FnR X.prog X.w X.K X.mg X.base CX n f sp) (hr : Room (n + 1) X.A) (hx : Passes CX X E) : CallR X (.builtin "repr") (rReprOwn C sp E) := by
  intro pins s σ H xs us Q I r h
  obtain ⟨a, dx, fs, rfl, ha, q⟩ := h
  obtain ⟨u, rfl, ru⟩ := r.one
  cases (show u = Value.ref a from ru)
  obtain ⟨ox, od, J⟩ := ins_inst I ha
  obtain ⟨m, hF⟩ := I.fr
  refine PySem.W.repr_K (show Room n X.A.in1 from Room.in1 hr).units0 hF I.ok.mod.kin J hm.at_ hm.fn ?_
  refine wpAny_mono (wpAny_call (SlX.run_at (us := [.ref a]) (ws := [.ref a]) F (show Room n X.A.in1 from Room.in1 hr) I.env0.in1 hx I (.cons rfl .nil) q)) (fun w s' z => ?_) fun _ _ x => x
  obtain ⟨z', H', I', rz, y, ez, qz⟩ := z
  subst ez
  obtain ⟨t, e⟩ := (show ∃ t, w = Value.str y t from rz)
  cases e
  exact ⟨.str y, H', I', ⟨_, rfl⟩, qz⟩
end
/-! ### f-strings -/
def gFmt (x : V) (H1 : Hp) (Q : VK) : Prop := (∃ y : Str, x = .str y ∧ y.length ≤ sizeLine ∧ Q (.str y) H1) ∨ ∃ i : Int, x = .int i ∧ i.natAbs.log2 < 1920 ∧ Q (.str (toString i)) H1
section
variable {σ : L2.St} {H : Hp} {te : TE} {ts : List TE} {acc : Str} {Q : VK} {QS : Str → Hp → Prop} {t : TE} {y : Str} {i : Int} {R : Str → Prop}
theorem r_fmt (q : te σ H fun x H1 => gFmt x H1 Q) : tFmt te σ H Q := q
theorem fmt_s (hz : y.length ≤ sizeLine) (q : Q (.str y) H) : gFmt (.str y) H Q := .inl ⟨y, rfl, hz, q⟩
theorem fmt_i (hz : i.natAbs.log2 < 1920) (q : Q (.str (toString i)) H) : gFmt (.int i) H Q := .inr ⟨i, rfl, hz, q⟩
theorem js_nil (q : QS acc H) : tJs [] acc σ H QS := q
theorem js_cons (q : t σ H fun x H1 => ∃ y : Str, x = .str y ∧ (acc ++ y).length ≤ sizeLine ∧ tJs ts (acc ++ y) σ H1 QS) : tJs (t :: ts) acc σ H QS := q
theorem js_put (hz : acc.length + y.length ≤ sizeLine) (q : R y) : ∃ y', V.str y = .str y' ∧ (acc ++ y').length ≤ sizeLine ∧ R y' := ⟨y, rfl, by rw [str_len_app]; exact hz, q⟩
end
/-- how long the text of a number is -/
def It (i : Int) : Str := toString i
/-! ### sep.join(xs) -/
def gJoin (K : PySem.W.Frag) : V → List V → Hp → VK → Prop := fun x xs H Q => ∃ a p, ∃ ys : List Str, x = .str a ∧ xs = [.ref p] ∧ (SqL K H p (ys.map V.str) ∨ SqT K H p (ys.map V.str)) ∧ (ys.map (·.length)).sum + ys.length * a.length ≤ 16777216 ∧ Q (.str (Txt.join a ys)) H
theorem pe_gJoin {X : Cx} {K : PySem.W.Frag} {o e : Expr} {to te : TE} {apos pos : Pos} (hK : X.K = K) (ho : PE X o to) (he : PE X e te) (hs : starEach [e] X.env = [(false, eval e X.env)] := by rfl) (hbase : attributeBase o "join" X.env (eval o X.env) = eval o X.env := by rfl) (hline : (apos.endLine == pos.line) = true := by rfl) :
    PE X (.Call (.Attribute o "join" apos) [e] [] pos) (tM1 (gJoin K) to te) := by
  rw [← hK]
  exact pe_join ho he hs hbase hline
section
variable {σ : L2.St} {H : Hp} {l : List Asn} {to te : TE} {r : V → List V → Hp → VK → Prop} {Q : VK} {K : PySem.W.Frag} {p : Addr} {a : Str} {ys : List Str} {e : Nat} {P : Prop}
theorem r_m1 (q : to σ H fun x H1 => (∃ a, x = .str a) ∧ te σ H1 fun y H2 => r x [y] H2 Q) : tM1 r to te σ H Q := q
theorem r_isstr (q : P) : (∃ b, V.str a = .str b) ∧ P := ⟨⟨a, rfl⟩, q⟩
theorem sum_le : ∀ {xs : List Nat} {B : Nat}, (∀ x ∈ xs, x ≤ B) → xs.sum ≤ xs.length * B
  | [], _, _ => Nat.zero_le _
  | x :: xs, B, h => by
    have h1 := h x List.mem_cons_self
    have h2 := sum_le (xs := xs) (B := B) fun y hy => h y (List.mem_cons_of_mem _ hy)
    rw [List.sum_cons, List.length_cons, Nat.add_mul, Nat.one_mul]
    omega
theorem c_join {B : Nat} (S : Sep l H) (hi : l[e]? = some (At p (.lst (ys.map V.str)))) (hB : ∀ y ∈ ys, y.length ≤ B) (hz : ys.length * B + ys.length * a.length ≤ 16777216) (q : Q (.str (Txt.join a ys)) H) : gJoin K (.str a) [.ref p] H Q :=
  ⟨a, p, ys, rfl, rfl, .inl (SqL.of (S.at hi)), by
    have := sum_le (xs := ys.map (·.length)) (B := B) fun x hx => by
      obtain ⟨y, hy, e⟩ := List.mem_map.1 hx
      rw [← e]; exact hB y hy
    rw [List.length_map] at this
    omega, q⟩
theorem c_joinT {B : Nat} (S : Sep l H) (hi : l[e]? = some (Tp p (ys.map V.str))) (hB : ∀ y ∈ ys, y.length ≤ B) (hz : ys.length * B + ys.length * a.length ≤ 16777216) (q : Q (.str (Txt.join a ys)) H) : gJoin K (.str a) [.ref p] H Q :=
  ⟨a, p, ys, rfl, rfl, .inr (SqT.of (S.tp hi)), by
    have := sum_le (xs := ys.map (·.length)) (B := B) fun x hx => by
      obtain ⟨y, hy, e⟩ := List.mem_map.1 hx
      rw [← e]; exact hB y hy
    rw [List.length_map] at this
    omega, q⟩
end
theorem join_len {a : Str} {B : Nat} : ∀ {ys : List Str}, (∀ y ∈ ys, y.length ≤ B) → (Txt.join a ys).length ≤ ys.length * (B + a.length)
  | [], _ => Nat.zero_le _
  | [y], h => by
    have := h y List.mem_cons_self
    show y.length ≤ 1 * (B + a.length)
    omega
  | y :: z :: ys, h => by
    have h1 := h y List.mem_cons_self
    have h2 := join_len (a := a) (B := B) (ys := z :: ys) fun x hx => h x (List.mem_cons_of_mem _ hx)
    have e : Txt.join a (y :: z :: ys) = y ++ a ++ Txt.join a (z :: ys) := by
      rw [TL.join_eq, TL.join_eq]; rfl
    rw [e, str_len_app, str_len_app, List.length_cons, Nat.add_mul, Nat.one_mul]
    omega
theorem int_len {i : Int} {k : Nat} (hk : 0 < k) (h : i.natAbs < 2 ^ k) : (Str.ofString (toString i)).length ≤ k + 1 := by
  rw [PySem.ofString_length]
  exact int_text_length_le hk (PySem.Flt.log2_lt_of hk h)
end
local macro_rules | `(tactic| walk_at "v1") => `(tactic| (first
  | with_reducible refine r_fmt ?_
  | with_reducible refine js_nil ?_
  | with_reducible refine js_cons ?_
  | with_reducible refine r_m1 ?_
  | with_reducible refine r_isstr ?_))
section
variable {l : List Asn} {H : Hp} {K : PySem.W.Frag} {C p : Addr} {g : Str → Int} {e : Nat} {y : V} {t : Value} {sp : Sp} {E : XK} {Q : VK}
theorem x_co (S : Sep l H) (hi : l[e]? = some (Co p C g)) (ht : TyX K H y t) (hn : PySem.W.notFirst K C t = true) (k : sp [.ref p, y] H Q E) : rCmpX K C sp E (.ref p) y H Q := by
  obtain ⟨dx, fs, h⟩ := ins_co S hi
  exact ⟨p, dx, fs, t, rfl, h, ht, hn, k⟩
theorem x_coNe (S : Sep l H) (hi : l[e]? = some (Co p C g)) (ht : TyX K H y t) (hn : PySem.W.notFirst K C t = true) (k : sp [.ref p, y] H (fun z H' => ∃ c : Bool, z = .bl c ∧ Q (.bl (!c)) H') E) : rNeX K C sp E (.ref p) y H Q := by
  obtain ⟨dx, fs, h⟩ := ins_co S hi
  exact ⟨p, dx, fs, t, rfl, h, ht, hn, k⟩
theorem rp_co (S : Sep l H) (hi : l[e]? = some (Co p C g)) (k : sp [.ref p] H (fun z H' => ∃ y : Str, z = .str y ∧ Q z H') E) : rReprOwn C sp E [.ref p] H Q := by
  obtain ⟨dx, fs, h⟩ := ins_co S hi
  exact ⟨p, dx, fs, rfl, h, k⟩
end
/-- truth of a word about anything -/
noncomputable def dP (P : Prop) : Bool := @decide P (Classical.propDecidable P)
theorem dP_iff {P : Prop} : dP P = true ↔ P := by
  unfold dP
  exact @decide_eq_true_iff P (Classical.propDecidable P)
theorem dP_of {P : Prop} {b : Bool} (h : b = true ↔ P) : b = dP P := by
  cases b with
  | true => exact (dP_iff.2 (h.1 rfl)).symm
  | false =>
    cases e : dP P with
    | false => rfl
    | true => exact h.2 (dP_iff.1 e)

/-! rules: what is read of them, their methods -/
section
open PyProof.Rows
theorem PE.or {X : Cx} {e : Expr} {t u : TE} (h : PE X e t) (k : PE X e u) : PE X e (fun σ H Q => t σ H Q ∨ u σ H Q) :=
  ⟨fun pins s σ H Q I q => q.elim (h.run pins s σ H Q I) (k.run pins s σ H Q I)⟩
theorem lkN3 {f : Str} {a b c : V} (h1 : (f == ("least" : Str)) = false) (h2 : (f == ("most" : Str)) = false) (h3 : (f == ("kinds" : Str)) = false) : List.lookup f [(("least" : Str), a), (("most" : Str), b), (("kinds" : Str), c)] = none := by
  show (match f == ("least" : Str) with | true => some a | false => (match f == ("most" : Str) with | true => some b | false => (match f == ("kinds" : Str) with | true => some c | false => none))) = none
  rw [h1, h2, h3]
section
variable {l : List Asn} {H : Hp} {p C : Addr} {a b : V} {ks : List V} {e : Nat} {K : PySem.W.Frag} {Q : VK} {f : Str} {R : Prop}
theorem ru_at (S : Sep l H) (hi : l[e]? = some (Ru p C a b ks)) : ∃ dx t, H p = some (.ins C dx [("least", a), ("most", b), ("kinds", .ref t)]) ∧ H t = some (.tup ks) := by
  obtain ⟨t, S1⟩ := ru_open (S.pick hi)
  obtain ⟨dx, h⟩ := ob_at S1 (e := 0) rfl
  exact ⟨dx, t, h, S1.tp (i := 1) rfl⟩
theorem f_ruL (S : Sep l H) (hi : l[e]? = some (Ru p C a b ks)) (hC : Kl K C rNs) (q : Q a H) : gFldR K "least" (.ref p) H Q := by
  obtain ⟨dx, t, h, _⟩ := ru_at S hi
  exact ⟨p, C, dx, _, a, rfl, h, hC.c, hC.n "least" (by decide), lk0, q⟩
theorem f_ruM (S : Sep l H) (hi : l[e]? = some (Ru p C a b ks)) (hC : Kl K C rNs) (q : Q b H) : gFldR K "most" (.ref p) H Q := by
  obtain ⟨dx, t, h, _⟩ := ru_at S hi
  exact ⟨p, C, dx, _, b, rfl, h, hC.c, hC.n "most" (by decide), lkS (by decide +kernel) lk0, q⟩
theorem f_ruK (S : Sep l H) (hi : l[e]? = some (Ru p C a b ks)) (hC : Kl K C rNs) (k : ∀ t, Sep (Tp t ks :: l) H → Q (.ref t) H) : gFldR K "kinds" (.ref p) H Q := by
  obtain ⟨dx, t, h, ht⟩ := ru_at S hi
  exact ⟨p, C, dx, _, _, rfl, h, hC.c, hC.n "kinds" (by decide), lkS (by decide +kernel) (lkS (by decide +kernel) lk0), k t (S.addT ht)⟩
theorem m_ru (S : Sep l H) (hi : l[e]? = some (Ru p C a b ks)) (h1 : (f == ("least" : Str)) = false) (h2 : (f == ("most" : Str)) = false) (h3 : (f == ("kinds" : Str)) = false) (q : R) : gM C f (.ref p) H R := by
  obtain ⟨dx, t, h, _⟩ := ru_at S hi
  exact ⟨p, dx, _, rfl, h, lkN3 h1 h2 h3, q⟩
theorem i_ru {D : Addr} {c : Bool} (S : Sep l H) (hi : l[e]? = some (Ru p C a b ks)) (hC : Kl K C rNs) (ki : Ki K C) (hk : PySem.W.kitOne K (.ref C) (.ref D) = some c) (q : Q (.bl c) H) : gIsi K [.ref p, .ref D] H Q := by
  obtain ⟨dx, t, h, _⟩ := ru_at S hi
  exact i_one (.own D) (.base (.ins h hC.c ki.ha ki.hn ki.ht ki.hm)) hk q
end
end
local macro_rules | `(tactic| walk_at "v1") => `(tactic| (first
  | ((with_reducible refine' f_ruL (by assumption) ?hi ?hC ?_); (case hi => walk_at "has"); (case hC => assumption))
  | ((with_reducible refine' f_ruM (by assumption) ?hi ?hC ?_); (case hi => walk_at "has"); (case hC => assumption))
  | ((with_reducible refine' f_ruK (by assumption) ?hi ?hC ?_); (case hi => walk_at "has"); (case hC => assumption); intro _ _)
  | ((with_reducible refine' m_ru (by assumption) ?hi ?h1 ?h2 ?h3 ?_); (case hi => walk_at "has"); (case h1 => decide +kernel); (case h2 => decide +kernel); (case h3 => decide +kernel))))
/-! [e for x in t], t a tuple -/
section
variable {σ : L2.St} {H : Hp} {K : PySem.W.Frag} {g : TG} {te ta : TE} {tt : TT} {vs : List Nat} {Q : VK} {l : List Asn} {p : Addr} {xs : List V}
theorem lcT {e : Nat} (S : Sep l H) (hi : l[e]? = some (Tp p xs)) (Pv : Addr → Nat → Hp → Prop) (h0 : ∀ D H', Sep (At D (.lst []) :: l) H' → Pv D 0 H') (hl : ∀ D i H, Pv D i H → H p = some (.tup xs))
    (hs : ∀ D i x H, xs[i]? = some x → Pv D i H → LcT g tt ta vs σ x D (Pv D (i + 1)) H) (hd : ∀ D H, Pv D xs.length H → Q (.ref D) H) : ∃ a, V.ref p = .ref a ∧ (∃ xs, SqT K H a xs) ∧ LcB (Itt K a) g tt ta vs σ H Q :=
  ⟨p, rfl, ⟨xs, SqT.of (S.tp hi)⟩, fun D hD => lc_tup (K := K) (Pv D) (h0 D _ (S.new hD)) (fun i H _ q => SqT.of (hl D i H q)) (hs D) (hd D)⟩
end
/-- sum(xs) -/
def gSum (K : PySem.W.Frag) : List V → Hp → VK → Prop := rSum K
theorem call_gSum {X : Cx} {K : PySem.W.Frag} (hK : X.K = K) (hc : X.calm = true) : CallR X (.builtin "sum") (gSum K) := by rw [← hK]; exact cr_sum hc
section
variable {l : List Asn} {H : Hp} {K : PySem.W.Frag} {Q : VK} {p : Addr} {e : Nat}
theorem c_sum {ns : List Int} (S : Sep l H) (hi : l[e]? = some (At p (.lst (ns.map V.int)))) (q : Q (.int ns.sum) H) : gSum K [.ref p] H Q := ⟨p, ns, rfl, SqL.of (S.at hi), q⟩
end
local macro_rules | `(tactic| walk_at "v1") => `(tactic| ((with_reducible refine' c_sum (by assumption) ?hi ?_); (case hi => walk_at "has")))
theorem is_nn {P : Bool → Prop} (q : P true) : P (decide (V.non = V.non)) := by rw [decide_eq_true rfl]; exact q
theorem is_in {n : Int} {P : Bool → Prop} (q : P false) : P (decide (V.int n = V.non)) := by rw [decide_eq_false (fun z => nomatch z)]; exact q

/-! own errors: made, raised, caught -/
theorem SepF.ext {l : List Asn} {g : Addr → Prop} {H H' : Hp} (S : SepF l g H) (h : ∀ b o, H b = some o → H' b = some o) : SepF l g H' :=
  S.st (fun a z => by
    obtain ⟨o, e⟩ := S.al a z
    rw [e]; exact h a o e) fun b xs e => h b _ e
theorem Sep.ext {l : List Asn} {H H' : Hp} (S : Sep l H) (h : ∀ b o, H b = some o → H' b = some o) : Sep l H' := by
  obtain ⟨g, S⟩ := S
  exact ⟨g, S.ext h⟩
theorem Sep.ext1 {l : List Asn} {H H' : Hp} {d : Addr} {o : HO} (S : Sep l H) (h : ∀ b o, H b = some o → H' b = some o) (hd : H d = none) (hd' : H' d = some o) : Sep (At d o :: l) H' := by
  obtain ⟨g, S⟩ := S
  refine ⟨_, .cons (f := fun a => a = d) ⟨hd', fun _ => Iff.rfl⟩ (S.ext h) fun a z w => ?_⟩
  obtain ⟨u, e⟩ := S.al a w
  rw [z, hd] at e
  cases e
/-- __init__ of an error with one field f -/
def sp_exi (K : PySem.W.Frag) (f : Str) : Sp := fun vs H Q _ => ∃ (a C : Addr) (x : V), vs = [.ref a, x] ∧ OexC K C ∧ PySem.W.findIn K (.ref C) f = some none ∧ H a = some (exo a C none) ∧
  ∀ dx, H dx = none → dx ≠ a → Q .non (upd (upd H dx (exd dx [(f, x)])) a (exo a C (some dx)))
section
variable {σ : L2.St} {H : Hp} {K : PySem.W.Frag} {to te : TE} {ta : TA} {f : Str} {nx bk ct : L2.St → Hp → Prop} {rt : VK} {Q : VK} {l : List Asn} {C : Addr} {x : V} {W : WX} {sp : Sp} {dvs : List V}
def tOstK (K : PySem.W.Frag) (f : Str) (to te : TE) : TS := tOst K f to te
theorem ps_gOst {X : Cx} {o e : Expr} {p' pos : Pos} (hK : X.K = K) (ho : PE X o to) (he : PE X e te) (hs : swapsWith e (some (.Attribute o f p')) pos.line X.env = pure false := by rfl) : PS X (.Assign [.Attribute o f p'] e pos) (tOstK K f to te) := by
  rw [← hK]; exact ps_ost ho he hs
theorem r_ost (q : te σ H fun y H1 => to σ H1 fun x H2 => ∃ a C : Addr, x = .ref a ∧ OexC K C ∧ PySem.W.findIn K (.ref C) f = some none ∧
  ((H2 a = some (exo a C none) ∧ ∀ dx, H2 dx = none → dx ≠ a → nx σ (upd (upd H2 dx (exd dx [(f, y)])) a (exo a C (some dx)))) ∨
    ∃ (dx : Addr) (fs : List (Str × V)), H2 a = some (exo a C (some dx)) ∧ H2 dx = some (exd dx fs) ∧ fs.length ≤ 900 ∧ nx σ (upd H2 dx (exd dx ((f, y) :: fs))))) : tOstK K f to te ⟨nx, rt, bk, ct⟩ σ H := q
/-- what C(x) asks where it is raised -/
@[irreducible] def gMkO (C : Addr) (sp : Sp) (dvs vs : List V) (H1 : Hp) (Q : XK) : Prop := vs.length ≤ 1000 ∧ ∀ a, H1 a = none → sp (.ref a :: (vs ++ dvs)) (upd H1 a (exo a C none))
  (fun v H2 => v = .non ∧ ∃ (d : Addr) (fs : List (Str × V)), H2 a = some (exo a C (some d)) ∧ H2 d = some (exd d fs) ∧ H1 d = none ∧ Q (.ref C) (some d) (upd (del H2 a) d (.xd fs))) (fun _ _ _ => False)
theorem mk_one {Q : XK} (S : Sep l H) (T : OexC K C) (hno : PySem.W.findIn K (.ref C) f = some none) (k : ∀ d H', Sep (At d (.xd [(f, x)]) :: l) H' → Q (.ref C) (some d) H') : gMkO C (sp_exi K f) [] [x] H Q := by
  unfold gMkO
  refine ⟨by show 1 ≤ 1000; decide, fun a ha => ⟨a, C, x, rfl, T, hno, upd_same, fun dx hdx hne => ⟨rfl, dx, [(f, x)], upd_same, by rw [upd_ne hne]; exact upd_same, ?_, ?_⟩⟩⟩
  · rw [upd_ne hne] at hdx; exact hdx
  · have hd1 : H dx = none := by rw [upd_ne hne] at hdx; exact hdx
    refine k dx _ (S.ext1 (fun b o e => ?_) hd1 upd_same)
    have hb : b ≠ dx := fun z => by rw [z, hd1] at e; cases e
    have hba : b ≠ a := fun z => by rw [z, ha] at e; cases e
    rw [upd_ne hb, del_ne hba, upd_ne hba, upd_ne hb, upd_ne hba]
    exact e
/-- raise C(..) -/
def tRaise (C : Addr) (sp : Sp) (dvs : List V) (ta : TA) (W : WX) : TS := fun _ σ H => ta σ H fun vs H1 => gMkO C sp dvs vs H1 fun cls d H' => W cls d σ H'
theorem ps_gRaise {X : Cx} {e : Expr} {pos : Pos} (hc : X.calm = true) (tk : Takes X W) (he : PMk X e (tMkO C sp dvs ta)) : PS X (.Raise (some e) none pos) (tRaise C sp dvs ta W) := by
  have h := ps_raise (pos := pos) hc tk he
  unfold tRaise gMkO
  exact h
theorem r_raise {D : L2.Ends} (q : ta σ H fun vs H1 => gMkO C sp dvs vs H1 fun cls d H' => W cls d σ H') : tRaise C sp dvs ta W D σ H := q
/-- try .. except C: .. -/
def tTry (K : PySem.W.Frag) (c : Value) (tb : WX → TS) (ts : Addr → Value → Option Addr → TS) (Wout : WX) : TS := fun D σ H => tb (wOnly K c ts Wout D) D σ H
theorem ps_gTry {X : Cx} {x : Str} {c : Value} {body suite : List Stmt} {b₀ : Stmt} {np pos pos' : Pos} {tb : WX → TS} {ts : Addr → Value → Option Addr → TS} {Wout : WX} (hK : X.K = K) (hs : X.stack = X.env :: X.outer) (hf : X.env.frame = some X.env.locals) (hc : Names X x c) (tk : Takes X Wout)
    (hb : ∀ (W : WX) (pn : List (Addr × Obj)) (xe : Value → Shared → Prop), Takes (X.tr pn xe) W → PassesOwn (model X.prog X.w) X.A X.env xe → PSs (X.tr pn xe) body (tb W))
    (hsu : ∀ (a : Addr) (oe : Obj) (cls : Value) (d : Option Addr) (pn : List (Addr × Obj)), Zc cls d oe → (∃ vs, oe.data = .fields vs) → PSs (X.suite a ((a, oe) :: pn)) (b₀ :: suite) (ts a cls d)) :
    PS X (.Try body [.ExceptHandler (some (.Name x np)) none (b₀ :: suite) pos'] [] [] pos) (tTry K c tb ts Wout) := by
  rw [← hK]; exact ps_try_only hs hf hc tk hb hsu
theorem r_try {c : Value} {tb : WX → TS} {ts : Addr → Value → Option Addr → TS} {Wout : WX} (q : tb (wOnly K c ts Wout ⟨nx, rt, bk, ct⟩) ⟨nx, rt, bk, ct⟩ σ H) : tTry K c tb ts Wout ⟨nx, rt, bk, ct⟩ σ H := q
theorem w_only {c cls : Value} {d : Option Addr} {ts : Addr → Value → Option Addr → TS} {Wout : WX} {D : L2.Ends} (h : PySem.W.exmOne K cls c = some true) (k : ∀ a, H a = none → ts a cls d D σ H) : wOnly K c ts Wout D cls d σ H :=
  ⟨true, h, fun _ => k, fun z => nomatch z⟩
end
/-- an error of the class C meets the clause except S -/
theorem exm_pair {K : PySem.W.Frag} {C S : Addr} {b : Bool} (h1 : PySem.W.subIn K (.ref S) (.type "BaseException") = some true) (h2 : PySem.W.isClsIn K S = true) (h3 : PySem.W.typeIn K (.ref S) = some (.type "type")) (h4 : PySem.W.subIn K (.ref C) (.ref S) = some b) : PySem.W.exmOne K (.ref C) (.ref S) = some b := by
  have h5 : (PySem.W.clsIn K S).isSome = true := h2
  unfold PySem.W.exmOne
  simp [h1, h3, h5, h4, PySem.W.kitCls]
open PyProof.Rows in
/-- as fun_star, for a def that may raise -/
theorem fun_starX {P : Program} {w : World} {K : PySem.W.Frag} {mg : Str → Option Value} {base : Heap} {x qual : Str} {st : Stmt} {f : Addr} {fd : FuncData} {N ps : List Str} {pv : Str} {k : Nat} {sp : Sp} (F : Fun K x qual st f fd) (S : FnScope N (ps ++ [pv]) (defScope st))
    (hb : ∀ (kV doc pm : Value) (an : Option Addr) (cdv ct : Value) (us rest : List Value), us.length = ps.length → bindArgs (PySem.W.fnOf x qual (defArgs st) (defBody st) (defScope st) .none kV doc pm an cdv ct) ⟨us ++ rest, []⟩ = (newTuple rest >>= fun t => pure (ps.zip us ++ [(pv, t)])))
    (hbody : ∀ (cdv : Value) (A : Around) (outer : List Env) (s : Shared) (H : Hp) (vs : List V) (Q : VK) (E : XK), Room k (A.deeper (envOfC qual (defScope st) s.heap.objs.size f cdv)) → sp vs H Q E →
      ∃ t, PSs (cxOf (L2.CX P w) P w K mg base N qual (defScope st) f cdv A outer s H E) (defBody st) t ∧ t { nx := fun _ H' => Q .non H', rt := Q } (start N vs) H) : FnR P w K mg base (L2.CX P w) (k + 1) f (stSp ps.length sp) := by
  obtain ⟨oc, od, kV, doc, pm, an, cdv, ct, osl, rfl, lk, hcd⟩ := F.ex
  exact StX.fn_star lk hcd S StX.cxUp (hb kV doc pm an cdv ct) fun A outer s H vs Q E hr hsp => hbody cdv A outer s H vs Q E hr hsp
local macro_rules | `(tactic| walk_at "v1") => `(tactic| (first
  | with_reducible refine r_raise ?_
  | with_reducible refine r_ost ?_
  | with_reducible refine r_try ?_))

/-! except .. as e: its fields, its class -/
/-- isinstance(e, c), e a caught error with a dict -/
def rIsD (K : PySem.W.Frag) (D a : Addr) (cls : Value) (d : Option Addr) : List V → Hp → VK → Prop := fun zs H Q => ∃ (c : V) (cv : Value) (b : Bool) (dd : Addr) (fs : List (Str × V)), zs = [.ref a, c] ∧ cls = .ref D ∧ d = some dd ∧ H dd = some (.xd fs) ∧ ClsV c cv ∧ PySem.W.kitOne K (.ref D) cv = some b ∧ Q (.bl b) H
theorem call_isD {X : Cx} {K : PySem.W.Frag} (hK : X.K = K) {a D : Addr} {oe : Obj} {cls : Value} {d : Option Addr} {pn : List (Addr × Obj)} (T : ExcC K D) (hz : Zc cls d oe) (hf : ∃ vs, oe.data = .fields vs) : CallR (X.suite a ((a, oe) :: pn)) (.builtin "isinstance") (rIsD K D a cls d) := by
  subst hK
  intro ps s0 σ0 H0 zs us Q0 I0 r0 h0
  obtain ⟨c, cv, b, dd, fs, rfl, ec, ed, hd, hcv, e, q⟩ := h0
  obtain ⟨u1, u2, rfl, r1, r2⟩ := r0.two
  cases (show u1 = Value.ref a from r1)
  cases hcv.eq r2
  subst ec ed
  have hp := (I0.pin (a, oe) (by simp [Cx.suite])).1
  obtain ⟨fv, hv⟩ := hf
  have ho : ObjOk X.prog X.w H0 s0.heap dd (.xd fs) := I0.hok dd _ hd
  obtain ⟨mA, hns, _⟩ := ho
  obtain ⟨od, hod, _⟩ := lookIn_ns hns
  have J : PySem.W.InstAt s0.heap a oe D (some od) := ⟨hp, hz.1, by unfold PySem.W.notCls; rw [hv], by rw [hz.2]; exact hod⟩
  have hcl : (PySem.W.clsIn X.K D).isSome = true := by
    obtain ⟨cd, hc, _⟩ := PySem.W.any_some T.hd
    rw [hc]; rfl
  exact PySem.W.kia_one (PySem.W.kitx_exc hcl T.hg T.hk T.hs T.ha T.hn T.ht T.hm) I0.kIn J e (by intro z; cases z) fun tk => ⟨.bl b, H0, I0.kept (t' := tk) (fun _ _ z => z), rfl, q⟩
/-- e.f, e a caught error -/
def gXf (a : Addr) (cls : Value) (d : Option Addr) (C : Addr) (f : Str) (x : V) (H1 : Hp) (Q : VK) : Prop := x = .ref a ∧ cls = .ref C ∧ ∃ (dd : Addr) (fs : List (Str × V)) (v : V), d = some dd ∧ H1 dd = some (.xd fs) ∧ fs.lookup f = some v ∧ Q v H1
section
variable {σ : L2.St} {H : Hp} {K : PySem.W.Frag} {te : TE} {ta : TA} {f : Str} {nx bk ct : L2.St → Hp → Prop} {rt : VK} {Q : VK} {l : List Asn} {C D : Addr} {x v : V} {W : WX} {sp : Sp} {i j : Nat} {a dd : Addr} {fs : List (Str × V)}
theorem r_xf {cls : Value} {d : Option Addr} (q : te σ H fun x H1 => gXf a cls d C f x H1 Q) : tXf a cls d C f te σ H Q := q
theorem x_xf (S : Sep l H) (hi : l[i]? = some (At dd (.xd fs))) (hf : fs.lookup f = some v) (q : Q v H) : gXf a (.ref C) (some dd) C f (.ref a) H Q := ⟨rfl, rfl, dd, fs, v, rfl, S.at hi, hf, q⟩
theorem c_isD {c : V} {cv : Value} {b : Bool} (S : Sep l H) (hi : l[i]? = some (At dd (.xd fs))) (hc : ClsV c cv) (hk : PySem.W.kitOne K (.ref D) cv = some b) (q : Q (.bl b) H) : rIsD K D a (.ref D) (some dd) [.ref a, c] H Q := ⟨c, cv, b, dd, fs, rfl, rfl, rfl, S.at hi, hc, hk, q⟩
theorem pe_gXf {X : Cx} (hK : X.K = K) {oe : Obj} {cls : Value} {d : Option Addr} {pn : List (Addr × Obj)} {e : Expr} {pos : Pos} {n : Str} (T : XfC K C) (hno : PySem.W.findIn K (.ref C) n = some none) (hz : Zc cls d oe) (hf : ∃ vs, oe.data = .fields vs) (he : PE (X.suite a ((a, oe) :: pn)) e te) (hb : attributeBase e n X.env (eval e X.env) = eval e X.env := by rfl) :
    PE (X.suite a ((a, oe) :: pn)) (.Attribute e n pos) (tXf a cls d C n te) := by subst hK; exact pe_xf T hno hz hf he hb
/-- try .. except C as e: .. (e in slot i) -/
def tTryAs (K : PySem.W.Frag) (c : Value) (i : Nat) (tb : WX → TS) (ts : Addr → Value → Option Addr → TS) (Wout : WX) : TS := fun D σ H => tb (wAs K c i ts Wout D) D σ H
theorem ps_gTryAs {X : Cx} {x n : Str} {c : Value} {body suite : List Stmt} {b₀ : Stmt} {np p1 p2 : Pos} {tb : WX → TS} {ts : Addr → Value → Option Addr → TS} {Wout : WX} (hK : X.K = K) (hs : X.stack = X.env :: X.outer) (hf : X.env.frame = some X.env.locals) (hN : X.N.Nodup) (hi : X.N[i]? = some n) (hln : X.env.kindOf n = some .local) (hc : Names X x c) (tk : Takes X Wout)
    (hb : ∀ (W : WX) (pn : List (Addr × Obj)) (xe : Value → Shared → Prop), Takes (X.tr pn xe) W → PassesOwn (model X.prog X.w) X.A X.env xe → PSs (X.tr pn xe) body (tb W))
    (hsu : ∀ (a : Addr) (oe : Obj) (cls : Value) (d : Option Addr) (pn : List (Addr × Obj)), Zc cls d oe → (∃ vs, oe.data = .fields vs) → PSs (X.suite a ((a, oe) :: pn)) (b₀ :: suite) (ts a cls d)) :
    PS X (.Try body [.ExceptHandler (some (.Name x np)) (some n) (b₀ :: suite) p2] [] [] p1) (tTryAs K c i tb ts Wout) := by
  subst hK; exact ps_try_as hs hf hN hi hln hc tk hb hsu
theorem r_tryAs {c : Value} {tb : WX → TS} {ts : Addr → Value → Option Addr → TS} {Wout : WX} (q : tb (wAs K c i ts Wout ⟨nx, rt, bk, ct⟩) ⟨nx, rt, bk, ct⟩ σ H) : tTryAs K c i tb ts Wout ⟨nx, rt, bk, ct⟩ σ H := q
theorem w_as {c cls : Value} {d : Option Addr} {ts : Addr → Value → Option Addr → TS} {Wout : WX} (h : PySem.W.exmOne K cls c = some true) (k : ∀ a, H a = none → ts a cls d ⟨fun σ' H' => nx (σ'.set i none) H', rt, fun σ' H' => bk (σ'.set i none) H', fun σ' H' => ct (σ'.set i none) H'⟩ (σ.set i (some (.ref a))) H) : wAs K c i ts Wout ⟨nx, rt, bk, ct⟩ cls d σ H :=
  ⟨true, h, fun _ => k, fun z => Bool.noConfusion z⟩
theorem r_callS {E : L2.St → XK} (q : ta σ H fun vs H1 => sp vs H1 Q (E σ)) : tCallS sp E ta σ H Q := q
/-- a, b, .. = a list -/
def gLstK (K : PySem.W.Frag) (n : Nat) (t : TGs) : TG := gLst K n t
theorem pg_gLst {X : Cx} {pos : Pos} {es : List Expr} {k : Nat} {t : TGs} {n : Nat} (hK : X.K = K) (hc : X.calm = true) (h : PGs X es t) (hn : (assignEach es X.env).length = n := by rfl) (hst : (assignEach es X.env).findIdx? (·.1) = none := by rfl) : PG X (.Tuple es k pos) (gLstK K n t) := by
  subst hK; exact pg_lst hc h hn hst
theorem g_lstK {t : TGs} {p : Addr} {xs : List V} {R : L2.St → Hp → Prop} (S : Sep l H) (hi : l[j]? = some (At p (.lst xs))) (hz : xs.length = i) (q : t xs σ H R) : gLstK K i t (.ref p) σ H R := ⟨p, xs, rfl, SqL.of (S.at hi), hz, q⟩
end
/-- a value that is known: plain, or a list that stands in the frame -/
def Lx (fr : List Asn) (x : V) : Prop := (∃ n, x = .int n) ∨ (∃ b, x = .bl b) ∨ x = .non ∨ (∃ w : Str, x = .str w ∧ w.length ≤ 3000) ∨ ∃ (p : Addr) (ys : List V) (i : Nat), x = .ref p ∧ fr[i]? = some (At p (.lst ys))
theorem Lx.up {fr : List Asn} {x : V} {A : Asn} (h : Lx fr x) : Lx (A :: fr) x := by
  rcases h with h | h | h | h | ⟨p, ys, i, h1, h2⟩
  · exact .inl h
  · exact .inr (.inl h)
  · exact .inr (.inr (.inl h))
  · exact .inr (.inr (.inr (.inl h)))
  · exact .inr (.inr (.inr (.inr ⟨p, ys, i + 1, h1, h2⟩)))
theorem lx_str {fr : List Asn} {w : Str} (h : w.length ≤ 3000) : Lx fr (.str w) := .inr (.inr (.inr (.inl ⟨w, rfl, h⟩)))
theorem lx_int {fr : List Asn} {n : Int} : Lx fr (.int n) := .inl ⟨n, rfl⟩
theorem Lx.int? {K : PySem.W.Frag} {H : Hp} {fr : List Asn} {x : V} (h : Lx fr x) (S : Sep fr H) : (∃ n, x = .int n) ∨ (∃ b, x = .bl b) ∨ ((∃ t, TyX K H x t ∧ PySem.W.kitOne K t (.type "int") = some false) ∧ ∀ n, x ≠ .int n) := by
  rcases h with ⟨n, rfl⟩ | ⟨b, rfl⟩ | rfl | ⟨w, rfl, _⟩ | ⟨p, ys, i, rfl, hi⟩
  · exact .inl ⟨n, rfl⟩
  · exact .inr (.inl ⟨b, rfl⟩)
  · exact .inr (.inr ⟨⟨_, .base .non, kit_ty k_ni⟩, fun _ z => nomatch z⟩)
  · exact .inr (.inr ⟨⟨_, .base (.str w), kit_ty k_si⟩, fun _ z => nomatch z⟩)
  · exact .inr (.inr ⟨⟨_, .base (.lst (S.at hi)), kit_ty k_li⟩, fun _ z => nomatch z⟩)
theorem Lx.str? {K : PySem.W.Frag} {H : Hp} {fr : List Asn} {x : V} (h : Lx fr x) (S : Sep fr H) : (∃ w : Str, x = .str w ∧ w.length ≤ 3000) ∨ ((∃ t, TyX K H x t ∧ PySem.W.kitOne K t (.type "str") = some false) ∧ ∀ w, x ≠ .str w) := by
  rcases h with ⟨n, rfl⟩ | ⟨b, rfl⟩ | rfl | ⟨w, rfl, h⟩ | ⟨p, ys, i, rfl, hi⟩
  · exact .inr ⟨⟨_, .base (.int n), kit_ty k_is⟩, fun _ z => nomatch z⟩
  · exact .inr ⟨⟨_, .base (.bl b), kit_ty k_bs⟩, fun _ z => nomatch z⟩
  · exact .inr ⟨⟨_, .base .non, kit_ty k_ns⟩, fun _ z => nomatch z⟩
  · exact .inl ⟨w, rfl, h⟩
  · exact .inr ⟨⟨_, .base (.lst (S.at hi)), kit_ty k_ls⟩, fun _ z => nomatch z⟩
/-- the parts of a rule, good or bad -/
def okN (x : V) : Prop := ∃ n : Int, x = .int n ∧ 0 ≤ n ∧ n < 10
def okK (x : V) : Prop := ∃ w : Str, x = .str w ∧ Kd w
def BadN (ns : List V) : Prop := (∃ x ∈ ns, ¬ okN x) ∨ ∃ a b : Int, ns = [.int a, .int b] ∧ b < a
def BadK (ks : List V) : Prop := ¬ (1 ≤ ks.length ∧ ks.length ≤ 3) ∨ (∃ x ∈ ks, ¬ okK x) ∨ ¬ ks.Nodup
def Ver (ns ks : List V) (r : Option Str) : Prop := (BadN ns ∧ r = some "number") ∨ (¬ BadN ns ∧ BadK ks ∧ r = some "kinds") ∨ (¬ BadN ns ∧ ¬ BadK ks ∧ r = none)
theorem okN_int {n : Int} : okN (.int n) ↔ 0 ≤ n ∧ n < 10 := ⟨fun ⟨m, e, h⟩ => by cases e; exact h, fun h => ⟨n, rfl, h⟩⟩
theorem okK_str {w : Str} : okK (.str w) ↔ Kd w := ⟨fun ⟨m, e, h⟩ => by cases e; exact h, fun h => ⟨w, rfl, h⟩⟩
theorem oks_strs : ∀ {ks : List V}, (∀ x ∈ ks, okK x) → ∃ ws : List Str, ks = ws.map V.str ∧ ∀ w ∈ ws, Kd w
  | [], _ => ⟨[], rfl, fun _ z => nomatch z⟩
  | x :: ks, h => by
    obtain ⟨w, rfl, hw⟩ := h x List.mem_cons_self
    obtain ⟨ws, rfl, hs⟩ := oks_strs fun y hy => h y (List.mem_cons_of_mem _ hy)
    refine ⟨w :: ws, rfl, fun v hv => ?_⟩
    rcases List.mem_cons.1 hv with rfl | hv
    · exact hw
    · exact hs v hv
local macro_rules | `(tactic| walk_at "v1") => `(tactic| (first
  | with_reducible refine r_xf ?_
  | with_reducible refine r_tryAs ?_
  | with_reducible refine r_callS ?_
  | ((with_reducible refine' x_xf (by assumption) ?hi ?hf ?_); (case hi => walk_at "has"); (case hf => exact lk0))
  | ((with_reducible refine' g_lstK (by assumption) ?hi ?hz ?_); (case hi => walk_at "has"); (case hz => rfl))))

/-! **kw with names given -/
section
open PyProof.Rows
theorem prs_snoc {P : Program} {w : World} {e : DictEntry} {q : Key × Value} : ∀ {es : List DictEntry} {kvs : List (Key × Value)}, PySem.Pairs (mixKind P w) es kvs → (mixKind P w).is q.1 e.key = true → e.val = q.2 → PySem.Pairs (mixKind P w) (es ++ [e]) (kvs ++ [q])
  | _, _, .nil, h1, h2 => .cons h1 h2 .nil
  | _, _, .cons a b r, h1, h2 => .cons a b (prs_snoc r h1 h2)
theorem prs_mem {P : Program} {w : World} : ∀ {es : List DictEntry} {kvs : List (Key × Value)}, PySem.Pairs (mixKind P w) es kvs → ∀ e ∈ es, ∃ q ∈ kvs, (mixKind P w).is q.1 e.key = true
  | _, _, .nil, _, z => nomatch z
  | _, _, .cons a b r, e, z => by
    rcases List.mem_cons.1 z with rfl | z
    · exact ⟨_, List.mem_cons_self, a⟩
    · obtain ⟨q, hq, h⟩ := prs_mem r e z
      exact ⟨q, List.mem_cons_of_mem _ hq, h⟩
/-- a new name put into a dict -/
theorem ns_put {P : Program} {w : World} {A : Around} {E : Value → Shared → Prop} {s : Shared} {a : Addr} {kvs : List (Key × Value)} {x : Str} {u : Value} {Q : Unit → Shared → Prop} (dd : s.heap.DictOf (mixKind P w) a kvs) (hx : ∀ q ∈ kvs, q.1 ≠ .inr x)
    (h : ∀ h', h'.DictOf (mixKind P w) a (kvs ++ [(.inr x, u)]) → (∀ b, b ≠ a → h'.get? b = s.heap.get? b) → h'.objs.size = s.heap.objs.size → Q () { s with heap := h', toks := s.toks + 1 }) : wpAny (model P w) A (nsSet a x u) Q E s := by
  obtain ⟨o, es, ep, ho, hxd, hd, hk, hp, hn⟩ := dd
  have hno : ∀ e ∈ es, e.key.isStr x = false := fun e he => by
    obtain ⟨q, hq, hi⟩ := prs_mem hp e (Array.mem_toList_iff.2 he)
    cases hs : e.key.isStr x
    · rfl
    · exfalso
      rcases keyIs_shape hi with ⟨i, t, e1, e2⟩ | ⟨y, t, e1, e2⟩
      · rw [e2] at hs; simp [Value.isStr] at hs
      · rw [e2] at hs
        have : y = x := by simpa [Value.isStr] using hs
        exact hx q hq (by rw [e1, this])
  have hni : es.findIdx? (fun e => e.key.isStr x) = none := by
    rw [Array.findIdx?_eq_none_iff]
    exact fun e he => hno e he
  have hrk : es.any (·.refKey) = false := by
    rw [Array.any_eq_false']
    intro e he
    obtain ⟨q, hq, hi⟩ := prs_mem hp e (Array.mem_toList_iff.2 he)
    rcases keyIs_shape hi with ⟨i, t, _, e2⟩ | ⟨y, t, _, e2⟩ <;> simp [DictEntry.refKey, e2]
  obtain ⟨c, od, dt, sl⟩ := o
  dsimp only at hd
  subst hd
  unfold nsSet strHash
  refine wpAny_bind (wpAny_bind (wpAny_askSetting (wpAny_pure ?_)))
  refine wpAny_bind (wpAny_mkText (wpAny_bind (wpAny_loadPart ho ?_)))
  have hq : aRefKeyMayBeTheName x es = false := by simp only [aRefKeyMayBeTheName_eq, aRefKeyMayBeTheNameByArray, hrk, Bool.and_false]
  show wpAny _ _ (if aRefKeyMayBeTheName x es = true then _ else _) _ _ _
  rw [if_neg (by rw [hq]; exact Bool.false_ne_true)]
  have ep1 : ∀ (hh : Int) (ky : Value), Obj.putName x hh ky u ⟨c, od, .dict es ep, sl⟩ = ⟨c, od, .dict (es.push ⟨hh, ky, u⟩) (ep + 1), sl⟩ := fun hh ky => by simp only [Obj.putName_eq, Obj.putNameByArray, hni]
  refine wpAny_updatePart ho ?_
  refine h _ ⟨_, _, ep + 1, (Heap.get?_update_self _ ho (by rw [ep1]; rfl)).trans (congrArg some (ep1 _ _)), hxd, rfl, ?_, ?_, ?_⟩ (fun b hb => Heap.get?_update_other _ _ (Ne.symm hb)) ?_
  · intro e he
    rcases Array.mem_push.1 he with he | rfl
    · exact hk e he
    · exact ⟨.inr x, keyIs_str x s.toks, rfl⟩
  · rw [Array.toList_push]
    exact prs_snoc hp (keyIs_str x s.toks) rfl
  · rw [List.map_append]
    refine List.nodup_append.2 ⟨hn, by simp, fun k hk' k2 hk2 e => ?_⟩
    obtain ⟨q, hq, rfl⟩ := List.mem_map.1 hk'
    rw [List.map_cons, List.map_nil, List.mem_singleton] at hk2
    exact hx q hq (e.trans hk2)
  · exact Heap.size_update _ _ _
/-- names and values, put in turn into a new dict -/
def kwFill (d : Addr) : List (Str × Value) → Sem Unit
  | [] => pure ()
  | p :: r => (nsSet d p.1 p.2 >>= fun _ => pure (ForInStep.yield PUnit.unit)) >>= fun (s : ForInStep PUnit) => match s with
    | .done b => pure b
    | .yield _ => kwFill d r
def kwK (ps : List (Str × Value)) : List (Key × Value) := ps.map fun p => (.inr p.1, p.2)
theorem kw_fill {P : Program} {w : World} {A : Around} {E : Value → Shared → Prop} {d : Addr} {Q : Unit → Shared → Prop} : ∀ (ps : List (Str × Value)) (kvs : List (Key × Value)) (s : Shared), s.heap.DictOf (mixKind P w) d kvs → (ps.map (·.1)).Nodup → (∀ p ∈ ps, ∀ q ∈ kvs, q.1 ≠ .inr p.1) →
    (∀ h' t', h'.DictOf (mixKind P w) d (kvs ++ kwK ps) → (∀ b, b ≠ d → h'.get? b = s.heap.get? b) → h'.objs.size = s.heap.objs.size → Q () { s with heap := h', toks := t' }) → wpAny (model P w) A (kwFill d ps) Q E s
  | [], kvs, s, dd, _, _, h => wpAny_pure (h s.heap s.toks (by rw [show kwK [] = [] from rfl, List.append_nil]; exact dd) (fun _ _ => rfl) rfl)
  | p :: r, kvs, s, dd, hn, hx, h => by
    rw [List.map_cons, List.nodup_cons] at hn
    refine wpAny_bind (wpAny_bind (ns_put dd (fun q hq => hx p List.mem_cons_self q hq) fun h1 d1 k1 z1 => wpAny_pure ?_))
    refine kw_fill r (kvs ++ [(.inr p.1, p.2)]) { s with heap := h1, toks := s.toks + 1 } d1 hn.2 (fun p' hp q hq => ?_) fun h2 t2 d2 k2 z2 => ?_
    · rcases List.mem_append.1 hq with hq | hq
      · exact hx p' (List.mem_cons_of_mem _ hp) q hq
      · rw [List.mem_singleton.1 hq]
        intro e
        exact hn.1 (List.mem_map.2 ⟨p', hp, (Sum.inr.inj e).symm⟩)
    · refine h h2 t2 (by rw [List.append_assoc] at d2; exact d2) (fun b hb => (k2 b hb).trans (k1 b hb)) (z2.trans z1)
def kwV (ks : List Str) (zs : List V) : List (Key × V) := (ks.zip zs).map fun p => (.inr p.1, p.2)
theorem kv_kw : ∀ {ks : List Str} {zs : List V} {ws : List Value}, Vals zs ws → KV (kwV ks zs) (kwK (ks.zip ws))
  | [], zs, ws, r => by rw [show kwV [] zs = [] from rfl, show kwK (([] : List Str).zip ws) = [] from rfl]; exact .nil
  | k :: ks, [], _, .nil => .nil
  | k :: ks, z :: zs, _, .cons a r => .cons ⟨rfl, a⟩ (kv_kw r)
/-- a function called with keywords -/
def FnK (P : Program) (w : World) (K : PySem.W.Frag) (mg : Str → Option Value) (base : Heap) (CX : CXT) (k : Nat) (f : Addr) (ks : List Str) (sp : List V → Sp) : Prop :=
  ∀ (A : Around) (outer : List Env) (s : Shared) (H : Hp) (us ws : List Value) (vs zs : List V) (Q : VK) (E : XK), Room k A → Env0 P w K mg base A outer s H → Vals vs us → Vals zs ws → sp zs vs H Q E → codeAny (model P w) A (.call (.ref f) ⟨us, ks.zip ws⟩) (CR CX outer P w H s Q E) s
def kwSpN (n : Nat) (ks : List Str) (sp : Sp) : List V → Sp := fun zs vs H Q E => vs.length = n ∧ zs.length = ks.length ∧ ∀ d, H d = none → sp (vs ++ [V.ref d]) (upd H d (.dK (kwV ks zs))) Q E
theorem env0_laidG {P : Program} {w : World} {K : PySem.W.Frag} {mg : Str → Option Value} {base : Heap} {A : Around} {outer : List Env} {s : Shared} {H : Hp} {u : HO} {h' : Heap} {t' : Nat} (e0 : Env0 P w K mg base A outer s H) (kp : ∀ b x, s.heap.get? b = some x → h'.get? b = some x) (hz : s.heap.objs.size ≤ h'.objs.size) (new : ObjOk P w (upd H s.heap.objs.size u) h' s.heap.objs.size u) :
    Env0 P w K mg base A outer { s with heap := h', toks := t' } (upd H s.heap.objs.size u) where
  frames := e0.frames
  mod := e0.mod
  bs := fun b x e => ⟨kp b x (e0.bs b x e).1, by rw [upd_ne (Nat.ne_of_lt (Heap.lt_size (e0.bs b x e).1))]; exact (e0.bs b x e).2⟩
  bsz := Nat.le_trans e0.bsz hz
  funs := Heap.FunFrames.of_keeps (fun b x e _ => ⟨x, kp b x e, rfl⟩) e0.funs
  frf := fun b hb => by
    obtain ⟨_, x, hx, _⟩ := e0.funs.mem hb
    rw [upd_ne (Nat.ne_of_lt (Heap.lt_size hx))]
    exact e0.frf b hb
  hok := e0.hok.laid kp (Nat.le_refl _) new
  bare := e0.bare
section
variable {CX : CXT} {P : Program} {w : World} {K : PySem.W.Frag} {mg : Str → Option Value} {base : Heap} {k : Nat} {f : Addr} {name qual : Str} {params : Arguments} {body : List Stmt} {scope : Scope} {dV kV doc pm cdv ct oc : Value} {an od : Option Addr}
  {osl : Array (Option Value)} {N ps ks : List Str} {sp : Sp}
theorem fn_kwN {pd : Str} (lk : K.lookup f = some ⟨oc, od, .func (PySem.W.fnOf name qual params body scope dV kV doc pm an cdv ct), osl⟩) (hcd : PySem.W.codeIn K cdv qual = true) (S : FnScope N (ps ++ [pd]) scope) (hCX : StX.CXUp CX) (hks : ks.Nodup) (hkz : ks.length ≤ 900)
    (bind : ∀ us ws : List Value, us.length = ps.length → ws.length = ks.length → bindArgs (PySem.W.fnOf name qual params body scope dV kV doc pm an cdv ct) ⟨us, ks.zip ws⟩ = ((alloc ({ cls := .type "dict", data := .dict #[] } : Obj) : Sem Addr) >>= fun d => kwFill d (ks.zip ws) >>= fun _ => pure (ps.zip us ++ [(pd, Value.ref d)])))
    (walk : ∀ (A : Around) (outer : List Env) (s : Shared) (H : Hp) (vs : List V) (Q : VK) (E : XK), Room k (A.deeper (envOfC qual scope s.heap.objs.size f cdv)) → sp vs H Q E →
      ∃ t, PSs (cxOf CX P w K mg base N qual scope f cdv A outer s H E) body t ∧ t { nx := fun _ H' => Q .non H', rt := Q } (start N vs) H) : FnK P w K mg base CX (k + 1) f ks (kwSpN ps.length ks sp) := by
  rintro A outer s H us ws vs zs Q E hr e0 r rz ⟨hl, hlz, hq⟩
  have hn : H s.heap.objs.size = Option.none := e0.hok.fresh (Nat.le_refl _)
  have hlu : us.length = ps.length := by rw [← r.length]; exact hl
  have hlw : ws.length = ks.length := by rw [← rz.length]; exact hlz
  have hfst : (ks.zip ws).map (·.1) = ks := by rw [← List.unzip_fst, List.unzip_zip hlw.symm]
  refine StX.run_bnd lk hcd S hr e0 (G := fun xs H2 => ∃ d, H d = Option.none ∧ xs = vs ++ [V.ref d] ∧ H2 = upd H d (.dK (kwV ks zs))) (fun A' Ex Q' h => ?_) (fun s2 H2 xs g hr' => ?_)
  · rw [bind us ws hlu hlw]
    refine wpAny_bind (wpAny_alloc (wpAny_bind ?_))
    refine kw_fill (ks.zip ws) [] _ (Heap.DictOf.new s.heap) (by rw [hfst]; exact hks) (fun _ _ _ z => nomatch z) fun h' t' dd kp sz => wpAny_pure ?_
    have kp2 : ∀ b x, s.heap.get? b = some x → h'.get? b = some x := fun b x e => (kp b (Nat.ne_of_lt (Heap.lt_size e))).trans (Heap.get?_push_of_some _ e)
    have sz2 : s.heap.objs.size ≤ h'.objs.size := by rw [sz, Heap.size_push]; exact Nat.le_succ _
    have hmz : (kwV ks zs).length ≤ 900 := by
      unfold kwV
      rw [List.length_map, List.length_zip]
      omega
    have new : ObjOk P w (upd H s.heap.objs.size (.dK (kwV ks zs))) h' s.heap.objs.size (.dK (kwV ks zs)) :=
      ⟨Nat.le_trans hmz (by decide), beq_eq_false_iff_ne.mpr (Ne.symm (Nat.ne_of_lt (StX.env0_big e0))), _, kv_kw rz, dd⟩
    have e1 := env0_laidG (t' := t') e0 kp2 sz2 new
    have un : Un (frs outer) [] H (upd H s.heap.objs.size (.dK (kwV ks zs))) s.heap h' := Un.laid kp2 (Nat.le_refl _) hn
    have z := h _ _ (vs ++ [V.ref s.heap.objs.size]) (us ++ [Value.ref s.heap.objs.size]) e1 un rfl (fun e s' => hCX outer s H _ _ E e s' un kp2 rfl) (r.append (.cons rfl .nil)) (by rw [List.length_append, List.length_append, hl] <;> rfl) ⟨_, hn, rfl, rfl⟩
    rw [List.zip_append hlu.symm] at z
    exact z
  · obtain ⟨d, hd, rfl, rfl⟩ := g
    exact walk A outer s2 _ _ Q E hr' (hq d hd)
end
theorem fun_kwN {P : Program} {w : World} {K : PySem.W.Frag} {mg : Str → Option Value} {base : Heap} {x qual : Str} {st : Stmt} {f : Addr} {fd : FuncData} {N ps : List Str} {pd : Str} {k : Nat} {sp : Sp} (ks : List Str) (hks : ks.Nodup) (hkz : ks.length ≤ 900) (F : Fun K x qual st f fd) (S : FnScope N (ps ++ [pd]) (defScope st))
    (bind : ∀ (kV doc pm : Value) (an : Option Addr) (cdv ct : Value) (us ws : List Value), us.length = ps.length → ws.length = ks.length → bindArgs (PySem.W.fnOf x qual (defArgs st) (defBody st) (defScope st) .none kV doc pm an cdv ct) ⟨us, ks.zip ws⟩ = ((alloc ({ cls := .type "dict", data := .dict #[] } : Obj) : Sem Addr) >>= fun d => kwFill d (ks.zip ws) >>= fun _ => pure (ps.zip us ++ [(pd, Value.ref d)])))
    (walk : ∀ (cdv : Value) (A : Around) (outer : List Env) (s : Shared) (H : Hp) (vs : List V) (Q : VK) (E : XK), Room k (A.deeper (envOfC qual (defScope st) s.heap.objs.size f cdv)) → sp vs H Q E →
      ∃ t, PSs (cxOf (L2.CX P w) P w K mg base N qual (defScope st) f cdv A outer s H E) (defBody st) t ∧ t { nx := fun _ H' => Q .non H', rt := Q } (start N vs) H) : FnK P w K mg base (L2.CX P w) (k + 1) f ks (kwSpN ps.length ks sp) := by
  obtain ⟨oc, od, kV, doc, pm, an, cdv, ct, osl, rfl, lk, hcd⟩ := F.ex
  exact fn_kwN lk hcd S StX.cxUp hks hkz (bind kV doc pm an cdv ct) fun A outer s H vs Q E hr hsp => walk cdv A outer s H vs Q E hr hsp
/-- C(k = v, ..) of a class whose __init__ gathers them -/
def tMakeN (C : Addr) (sp : List V → Sp) (E : XK) (tk : TA) : TE := fun σ H Q => tk σ H fun zs H1 => ∀ x dx, H1 x = none → H1 dx = none → dx ≠ x → sp zs [V.ref x] (upd (upd H1 dx (.own x)) x (.ins C dx [])) (fun v H2 => v = .non ∧ Q (.ref x) H2) E
theorem run_makeN {X : Cx} {CX : CXT} {k : Nat} {f C : Addr} {ks : List Str} {sp : List V → Sp} {E : XK} {ps : List (Addr × Obj)} {σ : L2.St} {H : Hp} {s : Shared} {Q : VK} {ws : List Value} {zs : List V} (M : Mk X.K C f) (F : FnK X.prog X.w X.K X.mg X.base CX k f ks sp) (hr : Room (k + 1) X.A) (hx : Passes CX X E)
    (I : Inv X ps σ H s) (rz : Vals zs ws) (h : ∀ x dx, H x = none → H dx = none → dx ≠ x → sp zs [V.ref x] (upd (upd H dx (.own x)) x (.ins C dx [])) (fun v H2 => v = .non ∧ Q (.ref x) H2) E) : wpAny (model X.prog X.w) X.A (call (.ref C) [] (ks.zip ws)) (EP X ps σ Q) X.xe s := by
  have q0 := h (s.heap.objs.size + 1) s.heap.objs.size (I.hok.fresh (Nat.le_succ _)) (I.hok.fresh (Nat.le_refl _)) (Nat.ne_of_lt (Nat.lt_succ_self _))
  have J := Inv.made (C := C) I
  have rx : Vals [V.ref (s.heap.objs.size + 1)] [Value.ref (s.heap.objs.size + 1)] := .cons rfl .nil
  refine wpAny_call (make_map (f := f) I.kIn M.makes M.init (beq_iff_eq.mp M.fn) (codeAny_mono (F _ X.stack _ _ [Value.ref (s.heap.objs.size + 1)] ws _ _ _ E (hr.make C [] (ks.zip ws)) (J.env0.make C [] (ks.zip ws)) rx rz q0) fun r s' hr' => ?_))
  match r, hr' with
  | .error e, hr' => exact hx ps σ _ _ e s' J hr'
  | .ok (.ret u), hr' =>
    obtain ⟨v, H', J2, rv, ev, qv⟩ := J.after hr'
    subst ev
    exact ⟨rv, ⟨V.ref (s.heap.objs.size + 1), H', J2, rfl, qv⟩⟩
  | .ok .next, hr' => exact hr'.elim
  | .ok .brk, hr' => exact hr'.elim
  | .ok .cont, hr' => exact hr'.elim
theorem pe_makeN {X : Cx} {CX : CXT} {k : Nat} {f C : Addr} {ks : List Str} {sp : List V → Sp} {E : XK} {x : Str} {p pos : Pos} {kws : List Keyword} {tk : TA} (M : Mk X.K C f) (F : FnK X.prog X.w X.K X.mg X.base CX k f ks sp) (hr : Room (k + 1) X.A) (hg : Gl X x) (hm : X.mg x = some (.ref C)) (hx : Passes CX X E) (hkw : PK X kws tk)
    (hall : (backToKw pos (keywordEach kws X.env)).all (·.1.isSome) = true := by rfl) (hks : (backToKw pos (keywordEach kws X.env)).filterMap (·.1) = ks := by rfl) (hdb : (x == ("__debug__" : Str)) = false := by decide)
    (hpl : ((backTo pos (starEach [] X.env)).any (·.1) || (backToKw pos (keywordEach kws X.env)).any (·.1.isNone)) = false := by rfl) : PE X (.Call (.Name x p) [] kws pos) (tMakeN C sp E tk) := by
  refine ⟨fun ps σ0 σ H Q I h => ?_⟩
  refine wpAny_Call_Name_kw (ld_glob I hg hm ?_ hdb)
  refine PySem.W.callWith_KW0 (h₀ := X.base) I.ok.mod.kin M.kp hall ?_ hpl
  refine thn (hkw.run pos ps σ0 σ H _ I h) fun ws s2 hw => ?_
  obtain ⟨zs, H2, I2, rz, q2⟩ := hw
  refine ⟨I2.kIn, ?_⟩
  rw [hks]
  exact run_makeN M F hr hx I2 rz q2
theorem r_makeN {C : Addr} {sp : List V → Sp} {E : XK} {tk : TA} {σ : L2.St} {H : Hp} {Q : VK} (q : tk σ H fun zs H1 => ∀ x dx, H1 x = none → H1 dx = none → dx ≠ x → sp zs [V.ref x] (upd (upd H1 dx (.own x)) x (.ins C dx [])) (fun v H2 => v = .non ∧ Q (.ref x) H2) E) : tMakeN C sp E tk σ H Q := q
end
local macro_rules | `(tactic| walk_at "v1") => `(tactic| with_reducible refine r_makeN ?_)

/-! bool(o) by an own __bool__, list(s) -/
section
open PyProof.Rows
theorem bool_any {prog : Program} {w : World} {A : Around} {E : Value → Shared → Prop} {s : Shared} {v : Value} {Q : Value → Shared → Prop} (h : wpAny (model prog w) A.in1.in1 (truthy v) (fun b s₁ => Q (.bool b) s₁) E s) : wpAny (model prog w) A (call (.type "bool") [v]) Q E s := by
  refine callType_codes (T := "bool") (Bi := Builtin.«object.__init__») (Q₁ := fun r s₁ => ∃ b, r = Value.bool b ∧ Q r s₁) PySem.F.called_bool (PySem.F.typeCall_bool_1 _) PySem.F.entry_object_init ?_ ?_
  · refine codeAny_of_tree ?_
    show wpAny _ A.in1.in1 (do checkBuiltinCall "bool.__new__" ⟨[.type "bool", v], []⟩; again (.builtin "bool.__new__" ⟨[.type "bool", v], []⟩)) _ _ s
    refine wpAny_bind (wpAny_of_eq (PySem.F.newCall_bool_1 _) (wpAny_pure ⟨plainId_quiet (by decide +kernel) _, codeAny_builtin PySem.F.entry_bool_new ?_⟩))
    rw [(Around.under_plainId (by decide +kernel) _)]
    unfold Builtin.«bool.__new__»
    refine wpAny_bind (wpAny_of_eq (a := true) (by kernel_rfl) ?_)
    refine (PySem.W.KFB.if_not rfl ?_)
    refine wpAny_bind (wpAny_of_eq (a := true) PySem.F.conv_sub_bool ?_)
    refine (PySem.W.KFB.if_not rfl ?_)
    refine wpAny_bind (wpAny_of_eq (a := [v]) rfl ?_)
    refine wpAny_bind (wpAny_mono h (fun b s' hr => ?_) fun _ _ y => y)
    exact wpAny_pure ⟨b, rfl, hr⟩
  · rintro obj s₁ ⟨b, rfl, hq⟩
    exact ⟨PySem.typeIs_bool _ _, PySem.F.args_object_init_2 _ _, object_init_meets PySem.F.called_bool.init.lookup PySem.F.called_bool.made (by decide) prog w A.in1 _ s₁ ⟨PySem.typeIs_bool _ _, rfl, hq⟩⟩
def rBoolOwn (C : Addr) (sp : Sp) (E : XK) : List V → Hp → VK → Prop := fun zs H Q => ∃ a dx fs, zs = [V.ref a] ∧ H a = some (.ins C dx fs) ∧ sp [V.ref a] H (fun z H' => ∃ b : Bool, z = .bl b ∧ Q (.bl b) H') E
theorem call_ownBool {X : Cx} {CX : CXT} {n : Nat} {f C : Addr} {sp : Sp} {E : XK} (hm : Meth X.K C (Str.ofString "__bool__") f) (F : FnR X.prog X.w X.K X.mg X.base CX n f sp) (hr : Room (n + 2) X.A) (hx : Passes CX X E) : CallR X (.type "bool") (rBoolOwn C sp E) := by
  intro ps σ0 σ H zs us Q I r h
  obtain ⟨a, dx, fs, rfl, ha, q⟩ := h
  obtain ⟨u, rfl, ru⟩ := r.one
  cases (show u = Value.ref a from ru)
  obtain ⟨ox, od, J⟩ := ins_inst I ha
  obtain ⟨m, hF⟩ := I.fr
  have hr2 : Room n X.A.in1.in1 := (Room.in1 (show Room (n + 1) X.A.in1 from hr.in1))
  refine bool_any (PySem.W.truthy_K hF I.ok.mod.kin J hm.at_ hm.fn (wpAny_mono (wpAny_call (SlX.run_at (us := [.ref a]) (ws := [.ref a]) F hr2 I.env0.in1.in1 hx I (.cons rfl .nil) q)) (fun w s' z => ?_) fun _ _ y => y))
  obtain ⟨z', H', I', rz, b, ez, qz⟩ := z
  subst ez
  cases (show w = Value.bool b from rz)
  exact ⟨.bl b, H', I', rfl, qz⟩
/-- bool(d), d a dict -/
def rBoolD : List V → Hp → VK → Prop := fun zs H Q => ∃ (a : Addr) (kvs : List (Key × V)), zs = [V.ref a] ∧ H a = some (.dK kvs) ∧ Q (.bl (!kvs.isEmpty)) H
theorem call_boolD {X : Cx} : CallR X (.type "bool") rBoolD := by
  intro ps σ0 σ H zs us Q I r h
  obtain ⟨a, kvs, rfl, ha, q⟩ := h
  obtain ⟨u, rfl, ru⟩ := r.one
  cases (show u = Value.ref a from ru)
  exact bool_any (d_truth I (.inl ha) fun s' I' => ⟨.bl _, H, I', rfl, q⟩)
theorem c_boolD {l : List Asn} {H : Hp} {i : Nat} {a : Addr} {m : List (Str × Int)} {Q : VK} (S : Sep l H) (hi : l[i]? = some (At a (.dK (mp m)))) (q : Q (.bl (!m.isEmpty)) H) : rBoolD [.ref a] H Q := by
  refine ⟨a, _, rfl, S.at hi, ?_⟩
  have e : (mp m).isEmpty = m.isEmpty := by cases m <;> rfl
  rw [e]; exact q
theorem c_ownBool {K : PySem.W.Frag} {l : List Asn} {H : Hp} {i : Nat} {p C : Addr} {fs : List (Str × V)} {sp : Sp} {E : XK} {Q : VK} (S : Sep l H) (hi : l[i]? = some (Ob p C fs)) (q : sp [V.ref p] H (fun z H' => ∃ b : Bool, z = .bl b ∧ Q (.bl b) H') E) : rBoolOwn C sp E [.ref p] H Q := by
  obtain ⟨dx, e⟩ := ob_at S hi
  exact ⟨p, dx, fs, rfl, e, q⟩
/-- list(s), s a text -/
def signs (x : Str) : List V := x.cps.toList.map fun c => V.str ⟨#[c]⟩
theorem signs_len (x : Str) : (signs x).length = x.cps.size := by unfold signs; rw [List.length_map, Array.length_toList]
theorem vals_signs {x : Str} {acc : Array Value} (h : ItemsOf (SignAt x) acc x.cps.size) : Vals (signs x) acc.toList := by
  have e : acc.toList.length = (signs x).length := by rw [Array.length_toList, signs_len]; exact h.1
  have k : signs x = (List.range acc.toList.length).map fun j => ((signs x)[j]?).getD .non := by
    refine List.ext_getElem? fun j => ?_
    rw [List.getElem?_map]
    by_cases hj : j < (signs x).length
    · rw [List.getElem?_range (by omega)]
      rw [Option.map_some, List.getElem?_eq_getElem hj]; rfl
    · rw [List.getElem?_eq_none (by omega), List.getElem?_eq_none (by rw [List.length_range]; omega)]; rfl
  rw [k]
  refine vals_of_get acc.toList _ fun j u hj => ?_
  obtain ⟨c, t, hc, rfl⟩ := h.2 j u (by rw [← hj, Array.getElem?_toList])
  have : (signs x)[j]? = some (V.str ⟨#[c]⟩) := by
    unfold signs
    rw [List.getElem?_map, Array.getElem?_toList, hc]; rfl
  rw [this]
  exact ⟨t, rfl⟩
def rListS : List V → Hp → VK → Prop := fun zs H Q => ∃ x : Str, zs = [.str x] ∧ x.cps.size ≤ 16777216 ∧ ∀ p, H p = none → Q (.ref p) (upd H p (.lst (signs x)))
theorem call_listS {X : Cx} (hc : X.calm = true) : CallR X (.type "list") rListS := by
  intro ps σ0 σ H zs us Q I r h
  obtain ⟨x, rfl, hz, q⟩ := h
  obtain ⟨u, rfl, t, rfl⟩ := r.one
  refine call_list_str (I.ok.hd hc) x t (fun h' tk acc c' hk e' hi => ?_) (by rw [sizeLine_eq]; omega)
  refine ⟨.ref σ0.heap.objs.size, upd H σ0.heap.objs.size (.lst (signs x)), I.laid hk (Nat.le_refl _) (show ObjOk X.prog X.w _ _ _ (.lst (signs x)) from ⟨?_, acc.toList, c', vals_signs hi, ?_⟩), rfl, q _ (I.hok.fresh (Nat.le_refl _))⟩
  · rw [signs_len, sizeLine_eq]; omega
  · rw [Array.toArray_toList]; exact e'
theorem c_listS {l : List Asn} {H : Hp} {x : Str} {Q : VK} (S : Sep l H) (hz : x.cps.size ≤ 16777216) (k : ∀ p H', Sep (At p (.lst (signs x)) :: l) H' → Q (.ref p) H') : rListS [.str x] H Q := ⟨x, rfl, hz, fun p hp => k p _ (S.new hp)⟩
theorem i_LTt {K : PySem.W.Frag} {H : Hp} {Q : VK} {l : List Asn} {p : Addr} {xs : List V} {e f : Nat} {q : Addr} (S : Sep l H) (hi : l[e]? = some (Tp p xs)) (hj : l[f]? = some (Tp q [.ty "list", .ty "tuple"])) (k : Q (.bl true) H) : gIsi K [.ref p, .ref q] H Q :=
  .inr ⟨.ref p, q, [.ty "list", .ty "tuple"], .type "tuple", [.type "list", .type "tuple"], true, rfl, S.tp hj, .cons (.ty _) (.cons (.ty _) .nil), .base (.tup (S.tp hi)), (by simp [PySem.W.kitAny, kit_ty k_tl, kit_ty k_tt]), k⟩
theorem mp_at {m : List (Str × Int)} {i : Nat} {k : Key} {v : V} (h : (mp m)[i]? = some (k, v)) : ∃ w n, m[i]? = some (w, n) ∧ k = Sum.inr w ∧ v = .int n := by
  unfold mp at h
  rw [List.getElem?_map] at h
  cases e : m[i]? with
  | none => rw [e] at h; cases h
  | some x => rw [e] at h; cases h; exact ⟨x.1, x.2, rfl, rfl, rfl⟩
/-- {.. for .. in d.items() ..}, d locked meanwhile -/
theorem dcI {σ : L2.St} {H : Hp} {g : TG} {te tk tv : TE} {tt : TT} {vs : List Nat} {Q : VK} {l : List Asn} {p : Addr} {e : Nat} {kvs : List (Key × V)} (S : Sep l H) (hi : l[e]? = some (At p (.dK kvs))) (Pv : Obj → Addr → Nat → Hp → Prop) (h0 : ∀ od D H', Sep (At D (.dK []) :: l.set e (At p (.frz od (.dK kvs)))) H' → Pv od D 0 H') (hl : ∀ od D i H, Pv od D i H → H p = some (.frz od (.dK kvs)))
    (hs : ∀ od D i k v T H H', kvs[i]? = some (k, v) → Pv od D i H → H T = none → H' = upd H T (.tup [kV k, v]) → DcT g tt tk tv vs σ (.ref T) D (Pv od D (i + 1)) H') (hd : ∀ od D H, Pv od D kvs.length H → Q (.ref D) (upd H p (.dK kvs))) (hv : ∀ H', te σ H' = fun Q => Q (.ref p) H') : tLockE (tDc (iItems te) g tt tk tv vs) σ H Q := by
  refine ⟨p, .dK kvs, S.at hi, trivial, fun od => ?_⟩
  have S1 := S.upd hi (o' := .frz od (.dK kvs)) (fun _ z => nomatch z)
  show te σ _ _
  rw [hv]
  refine ⟨p, od, kvs, rfl, upd_same, fun D hD => ⟨fun i m H2 => m = kvs.length - i ∧ i ≤ kvs.length ∧ Pv od D i H2, ⟨kvs.length, by simp, Nat.zero_le _, h0 od D _ (S1.new hD)⟩, ?_⟩⟩
  rintro i m H2 ⟨rfl, hz, q⟩
  have hq := hl od D i H2 q
  by_cases hlt : i < kvs.length
  · refine .inr ⟨⟨hq, hlt⟩, Pv od D (i + 1), fun H3 q3 => ⟨kvs.length - (i + 1), by omega, rfl, hlt, q3⟩, fun x H3 y => ?_⟩
    obtain ⟨T, k, v, ek, rfl, hn, rfl⟩ := y
    exact hs od D i k v T H2 _ ek q hn rfl
  · obtain rfl : i = kvs.length := by omega
    exact .inl ⟨⟨hq, Nat.le_refl _⟩, hq, hd od D H2 q⟩
end
local macro_rules | `(tactic| walk_at "v1") => `(tactic| (first
  | ((with_reducible refine' c_ownBool (by assumption) ?hi ?_); (case hi => walk_at "has"))
  | ((with_reducible refine' c_boolD (by assumption) ?hi ?_); (case hi => walk_at "has"))
  | ((with_reducible refine' c_listS (by assumption) ?hz ?_); (case hz => decide); intro _ _ _)))

/-! str(o) by an own __str__; == and != where the right one's class goes first -/
section
open PyProof.Rows
theorem str_any {prog : Program} {w : World} {A : Around} {E : Value → Shared → Prop} {s : Shared} {v : Value} {Q : Value → Shared → Prop} (h : wpAny (model prog w) A.in1.in1 (Builtin.Str.strOf v) (fun r s₁ => ∃ x t, r = Value.str x t ∧ Q r s₁) E s) : wpAny (model prog w) A (call (.type "str") [v]) Q E s := by
  refine callType_codes (T := "str") (Bi := Builtin.«object.__init__») (Q₁ := fun r s₁ => ∃ x t, r = Value.str x t ∧ Q r s₁) PySem.F.called_str (PySem.F.typeCall_str_1 _) PySem.F.entry_object_init ?_ ?_
  · refine codeAny_of_tree ?_
    show wpAny _ A.in1.in1 (do checkBuiltinCall "str.__new__" ⟨[.type "str", v], []⟩; again (.builtin "str.__new__" ⟨[.type "str", v], []⟩)) _ _ s
    refine wpAny_bind (wpAny_of_eq (PySem.F.newCall_str_1 _) (wpAny_pure ⟨plainId_quiet (by decide +kernel) _, codeAny_builtin PySem.F.entry_str_new ?_⟩))
    rw [(Around.under_plainId (by decide +kernel) _), str_new_tree v]
    refine wpAny_bind (wpAny_pure (wpAny_bind (wpAny_of_eq isSubtype_str_str ?_)))
    refine wpAny_bind (wpAny_mono h (fun r s' hr => ?_) fun _ _ y => y)
    obtain ⟨x, t, rfl, hq⟩ := hr
    exact wpAny_pure ⟨x, t, rfl, hq⟩
  · rintro obj s₁ ⟨x, t, rfl, hq⟩
    exact ⟨typeIs_str _ _ _, PySem.F.args_object_init_2 _ _, object_init_meets PySem.F.called_str.init.lookup PySem.F.called_str.made (by decide) prog w A.in1 _ s₁ ⟨typeIs_str _ _ _, rfl, hq⟩⟩
/-- what str(o), o an instance whose class has sp for __str__, asks -/
def rStrOwn (C : Addr) (sp : Sp) (E : XK) : List V → Hp → VK → Prop := fun zs H Q => ∃ a dx fs, zs = [V.ref a] ∧ H a = some (.ins C dx fs) ∧ sp [V.ref a] H (fun z H' => ∃ y : Str, z = .str y ∧ Q z H') E
theorem call_ownStr {X : Cx} {CX : CXT} {n : Nat} {f C : Addr} {sp : Sp} {E : XK} (hm : Meth X.K C (Str.ofString "__str__") f) (F : FnR X.prog X.w X.K X.mg X.base CX n f sp) (hr : Room (n + 2) X.A) (hx : Passes CX X E) : CallR X (.type "str") (rStrOwn C sp E) := by
  intro ps σ0 σ H zs us Q I r h
  obtain ⟨a, dx, fs, rfl, ha, q⟩ := h
  obtain ⟨u, rfl, ru⟩ := r.one
  cases (show u = Value.ref a from ru)
  obtain ⟨ox, od, J⟩ := ins_inst I ha
  have hr2 : Room n X.A.in1.in1 := (Room.in1 (show Room (n + 1) X.A.in1 from hr.in1))
  refine str_any ?_
  unfold Builtin.Str.strOf
  show wpAny _ _ (if false = true then _ else _) _ _ _
  rw [if_neg Bool.false_ne_true]
  refine wpAny_bind (wpAny_cRoomFor hr2.units0 ?_)
  refine wpAny_bind (m := callSpecial? (.ref a) (Str.ofString "__str__")) (PySem.W.special_fn I.kIn J hm.at_ (beq_iff_eq.mp hm.fn) (wpAny_mono (wpAny_call (SlX.run_at (us := [.ref a]) (ws := [.ref a]) F hr2 I.env0.in1.in1 hx I (.cons rfl .nil) q)) (fun w s' z => ?_) fun _ _ y => y))
  obtain ⟨z', H', I', rz, y, ez, qz⟩ := z
  subst ez
  obtain ⟨t, rfl⟩ := (show ∃ t, w = Value.str y t from rz)
  refine wpAny_bind (wpAny_of_eq (a := some y) rfl ?_)
  exact wpAny_pure ⟨y, t, rfl, .str y, H', I', ⟨t, rfl⟩, qz⟩
section
variable {X : Cx} {CX : CXT} {n : Nat} {f : Addr} {sp : Sp} {E : XK} {K : PySem.W.Frag}
/-- o == y, f the __eq__ of o's class: o's own goes first, or that of y, of a class below -/
def rEqF (K : PySem.W.Frag) (f : Addr) (sp : Sp) (E : XK) : R2 := fun x y H Q => ∃ a C dx fs t, x = V.ref a ∧ H a = some (.ins C dx fs) ∧ Meth K C (Str.ofString "__eq__") f ∧ TyX K H y t ∧
  ((PySem.W.notFirst K C t = true ∧ sp [x, y] H Q E) ∨ ∃ b D dy gs, y = V.ref b ∧ t = .ref D ∧ H b = some (.ins D dy gs) ∧ Meth K D (Str.ofString "__eq__") f ∧ D ≠ C ∧ PySem.W.subIn K (.ref D) (.ref C) = some true ∧ sp [y, x] H Q E)
theorem op_eqF (hK : X.K = K) (F : FnR X.prog X.w X.K X.mg X.base CX n f sp) (hr : Room n X.A) (hx : Passes CX X E) : OpR X (compareOp .Eq) (rEqF K f sp E) := by
  intro ps σ0 σ H x y v u Q I rx ry h
  subst hK
  obtain ⟨a, C, dx, fs, t, rfl, ha, hm, ht, h⟩ := h
  cases (show v = Value.ref a from rx)
  obtain ⟨ox, od, J⟩ := ins_inst I ha
  obtain ⟨m, hF⟩ := I.fr
  obtain ⟨P, KX, hP, _⟩ := kit_of I ry ht
  have XK := I.ok.mod.kin.keeps hF.keep
  have hb := KX.ty (model X.prog X.w) _ XK hP
  rcases h with ⟨hs, q⟩ | ⟨b, D, dy, gs, rfl, rfl, hb2, hm2, hne, hs, q⟩
  · show wpAny _ _ (richCompare .Eq (.ref a) u) _ _ _
    refine PySem.W.cmp_K (op := .Eq) (tb := t) hr.units0 hF I.ok.mod.kin J hb hs hm.at_ hm.fn ?_
    refine wpAny_mono (wpAny_call (run_fnR (us := [.ref a, u]) (vs := [.ref a, y]) F hr hx I (.cons rfl (.cons ry .nil)) q)) (fun w s' z => ?_) fun _ _ e => e
    obtain ⟨z', H', I', rz, qz⟩ := z
    exact SlX.cmpback rz ⟨z', H', I', rz, qz⟩
  · cases (show u = Value.ref b from ry)
    obtain ⟨oy, ody, Jy⟩ := ins_inst I hb2
    have one : wpAny (model X.prog X.w) X.A (tryCompare (.ref b) "__eq__" (.ref a)) (fun r s' => ∃ w, r = some w ∧ EP X ps σ Q w s') X.xe σ0 := by
      unfold tryCompare
      refine wpAny_bind (PySem.W.ifBound_K XK Jy hm2.at_ hm2.fn (wpAny_mono (wpAny_call (run_fnR (us := [.ref b, .ref a]) (vs := [.ref b, .ref a]) F hr hx I (.cons rfl (.cons rfl .nil)) q)) (fun w s' z => ?_) fun _ _ e => e))
      obtain ⟨z', H', I', rz, qz⟩ := z
      have e := SlX.cmpback (P := fun w s' => EP X ps σ Q w s') rz ⟨z', H', I', rz, qz⟩
      cases w <;> first | exact e.elim | exact wpAny_pure ⟨_, rfl, e⟩
    show wpAny _ _ (richCompare .Eq (.ref a) (.ref b)) _ _ _
    unfold richCompare
    simp only [oneThing_ref]
    refine wpAny_holding (wpAny_bind (wpAny_cRoomFor hr.units0 ?_))
    refine wpAny_bind (J.type.here (wpAny_bind (hb.here ?_)))
    have hd : ((Value.ref C : Value) != .ref D) = true := by simp [bne_iff_ne]; exact fun z => hne z.symm
    rw [if_pos hd]
    refine wpAny_bind ((PySem.W.looks_subIn XK hs).here ?_)
    rw [if_pos rfl]
    refine wpAny_bind (m := tryCompare (.ref b) _ (.ref a)) (wpAny_mono one (fun r s' z => ?_) fun _ _ e => e)
    obtain ⟨w, rfl, ep⟩ := z
    exact wpAny_bind (wpAny_rule (wpAny_pure ep))
structure NeC (K : PySem.W.Frag) (C : Addr) : Prop where
  ne : PySem.W.findIn K (.ref C) "__ne__" = some (some (.builtin "object.__ne__"))
  ob : PySem.W.mroIn K C (.type "object") = some true
/-- o.__ne__(y), by an own __eq__ -/
theorem one_ne {C a : Addr} {u : Value} {y : V} {ox : Obj} {od : Option Obj} {ps : List (Addr × Obj)} {σ : L2.St} {H : Hp} {s : Shared} {Q : VK} (I : Inv X ps σ H s) (J : PySem.W.InstAt s.heap a ox C od) (N : NeC X.K C) (hm : Meth X.K C (Str.ofString "__eq__") f) (F : FnR X.prog X.w X.K X.mg X.base CX n f sp) (hr : Room (n + 1) X.A) (hu : X.A.units + 64 < cLine) (hx : Passes CX X E) (ry : RelV y u)
    (q : sp [.ref a, y] H (fun z H' => ∃ c : Bool, z = .bl c ∧ Q (.bl (!c)) H') E) : wpAny (model X.prog X.w) X.A (tryCompare (.ref a) "__ne__" u) (fun r s' => ∃ w, r = some w ∧ EP X ps σ Q w s') X.xe s := by
  obtain ⟨m, hF⟩ := I.fr
  have XK := I.ok.mod.kin.keeps hF.keep
  have entry : wpAny (model X.prog X.w) X.A.in1 (Builtin.«object.__ne__» ⟨[.ref a, u], []⟩) (fun r s' => ∃ w, r = .done (.ret w) ∧ (w ≠ .notImplemented ∧ EP X ps σ Q w s')) X.xe s := by
    unfold Builtin.«object.__ne__»
    repeat (first
      | with_reducible refine wpAny_cRoomFor (show X.A.in1.units < cLine by show X.A.units + 1 < cLine; omega) ?_
      | (refine wpAny_bind (m := callSpecialIfBound? (.ref a) (Str.ofString "__eq__") [u]) (PySem.W.ifBound_K XK J hm.at_ hm.fn
          (wpAny_mono (wpAny_call (SlX.run_at (us := [.ref a, u]) (ws := [.ref a, y]) F (show Room n X.A.in1 from Room.in1 hr) I.env0.in1 hx I (.cons rfl (.cons ry .nil)) q)) (fun w s' z => by
            obtain ⟨z', H', I', rz, c, ez, qz⟩ := z
            subst ez
            cases (show w = Value.bool c from rz)
            repeat (first | exact ⟨_, rfl, nofun, .bl (!c), H', I', rfl, qz⟩ | exact wpAny_pure ⟨_, rfl, nofun, .bl (!c), H', I', rfl, qz⟩ | (refine wpAny_bind (m := truthy (.bool _)) (wpAny_truthy_bool ?_)) | wp_step)) fun _ _ e => e)))
      | wp_step)
  unfold tryCompare
  refine wpAny_bind (ifBound_objNe XK J N.ne ?_)
  refine wpAny_call (codeAny_call_builtin PySem.F.cmp_object.ne.plain PySem.F.cmpEntry_ne (PySem.W.check_slot PySem.F.cmpKind_ne PySem.F.cmpSplit_ne (J.type.andThen (PySem.W.looks_mroIn XK N.ob)) (PySem.F.cmpArgs_ne _ _) (wpAny_mono entry (fun r s' z => ?_) fun _ _ e => e)))
  obtain ⟨w, rfl, hw, ep⟩ := z
  cases w <;> first | exact (hw rfl).elim | exact wpAny_pure ⟨_, rfl, ep⟩
def rNeF (K : PySem.W.Frag) (f : Addr) (sp : Sp) (E : XK) : R2 := fun x y H Q => ∃ a C dx fs t, x = V.ref a ∧ H a = some (.ins C dx fs) ∧ Meth K C (Str.ofString "__eq__") f ∧ NeC K C ∧ TyX K H y t ∧
  ((PySem.W.notFirst K C t = true ∧ sp [x, y] H (fun z H' => ∃ c : Bool, z = .bl c ∧ Q (.bl (!c)) H') E) ∨ ∃ b D dy gs, y = V.ref b ∧ t = .ref D ∧ H b = some (.ins D dy gs) ∧ Meth K D (Str.ofString "__eq__") f ∧ NeC K D ∧ D ≠ C ∧ PySem.W.subIn K (.ref D) (.ref C) = some true ∧ sp [y, x] H (fun z H' => ∃ c : Bool, z = .bl c ∧ Q (.bl (!c)) H') E)
theorem op_neF (hK : X.K = K) (F : FnR X.prog X.w X.K X.mg X.base CX n f sp) (hr : Room (n + 1) X.A) (hu : X.A.units + 64 < cLine) (hx : Passes CX X E) : OpR X (compareOp .NotEq) (rNeF K f sp E) := by
  intro ps σ0 σ H x y v u Q I rx ry h
  subst hK
  obtain ⟨a, C, dx, fs, t, rfl, ha, hm, hN, ht, h⟩ := h
  cases (show v = Value.ref a from rx)
  obtain ⟨ox, od, J⟩ := ins_inst I ha
  obtain ⟨m, hF⟩ := I.fr
  obtain ⟨P, KX, hP, _⟩ := kit_of I ry ht
  have XK := I.ok.mod.kin.keeps hF.keep
  have hb := KX.ty (model X.prog X.w) _ XK hP
  show wpAny _ _ (richCompare .NotEq (.ref a) u) _ _ _
  unfold richCompare
  simp only [oneThing_ref]
  refine wpAny_holding (wpAny_bind (wpAny_cRoomFor (by omega) ?_))
  refine wpAny_bind (J.type.here (wpAny_bind (hb.here ?_)))
  rcases h with ⟨hs, q⟩ | ⟨b, D, dy, gs, rfl, rfl, hb2, hm2, hN2, hne, hs, q⟩
  · have one := one_ne I J hN hm F hr hu hx ry q
    split
    · rename_i c
      have e : PySem.W.subIn X.K t (.ref C) = some false := by
        rcases Bool.or_eq_true_iff.mp hs with e | e
        · rw [beq_iff_eq.mp e] at c; simp at c
        · exact beq_iff_eq.mp e
      refine wpAny_bind ((PySem.W.looks_subIn XK e).here ?_)
      simp only [Bool.false_eq_true, if_false]
      refine wpAny_bind (m := tryCompare (.ref a) _ u) (wpAny_mono one (fun r s' z => ?_) fun _ _ e => e)
      obtain ⟨w, rfl, ep⟩ := z
      exact wpAny_pure ep
    · refine wpAny_bind (wpAny_pure ?_)
      simp only [Bool.false_eq_true, if_false]
      refine wpAny_bind (m := tryCompare (.ref a) _ u) (wpAny_mono one (fun r s' z => ?_) fun _ _ e => e)
      obtain ⟨w, rfl, ep⟩ := z
      exact wpAny_pure ep
  · cases (show u = Value.ref b from ry)
    obtain ⟨oy, ody, Jy⟩ := ins_inst I hb2
    have one := one_ne (u := .ref a) (y := .ref a) I Jy hN2 hm2 F hr hu hx rfl q
    have hd : ((Value.ref C : Value) != .ref D) = true := by simp [bne_iff_ne]; exact fun z => hne z.symm
    rw [if_pos hd]
    refine wpAny_bind ((PySem.W.looks_subIn XK hs).here ?_)
    rw [if_pos rfl]
    refine wpAny_bind (m := tryCompare (.ref b) _ (.ref a)) (wpAny_mono one (fun r s' z => ?_) fun _ _ e => e)
    obtain ⟨w, rfl, ep⟩ := z
    exact wpAny_bind (wpAny_rule (wpAny_pure ep))
end

end
/-! own errors with one field, over any built-in base -/
section
open PyProof.Rows
structure OexB (K : PySem.W.Frag) (C : Addr) : Prop where
  ex : ∃ (B newId initId : String) (bm : List Value), ExcBaseFacts B newId initId bm ∧ (∀ v : Value, refuseLoop v "__setattr__" bm = pure ()) ∧ bm.contains (.type "object") = true ∧
    ∃ nm q N bs sn sub ab col dd k0 k1 k2 k3 k5, K.lookup C = some (excClassObj nm q C N bs bm true sn sub ab col dd k0 k1 k2 k3 k5 newId)
  sa : PySem.W.findIn K (.ref C) "__setattr__" = some (some (.builtin "object.__setattr__"))
  exC : PySem.W.subIn K (.ref C) (.type "BaseException") = some true
  tyC : PySem.W.typeIn K (.ref C) = some (.type "type")
  kC : PySem.W.keepIn K (.ref C) = true
theorem pass_ZD : ∀ v : Value, refuseLoop v "__setattr__" [.type "ZeroDivisionError", .type "ArithmeticError", .type "Exception", .type "BaseException", .type "object"] = pure () := fun v => by kernel_rfl
theorem pass_LE : ∀ v : Value, refuseLoop v "__setattr__" [.type "LookupError", .type "Exception", .type "BaseException", .type "object"] = pure () := fun v => by kernel_rfl
theorem pass_RE : ∀ v : Value, refuseLoop v "__setattr__" [.type "RuntimeError", .type "Exception", .type "BaseException", .type "object"] = pure () := fun v => by kernel_rfl
section
open Builtin Builtin.ObjectAttr PySem.W PySem.HandSPX
theorem exb_set {prog : Program} {w : World} {A : Around} {R : Result → Shared → Prop} {h0 : Heap} {g0 : Array GenState} {d0 : Drawn} {t0 : Nat} {o0 : OsState} {K : Frag} {fld : Str} {tk : Tok} {u : Value} {e C : Addr} {fv : Array Value} {cd : ClassData} {bm : List Value}
    (KX : K.In h0) (he : h0.get? e = some { cls := .ref C, data := .fields fv }) (hcd : clsIn K C = some cd) (hm : cd.mro = .ref C :: bm) (pass : ∀ v : Value, refuseLoop v "__setattr__" bm = pure ()) (hob : bm.contains (.type "object") = true) (hh : cd.hasDict = true) (hno : findIn K (.ref C) fld = some none)
    (k : ∀ h1 t1 dx, (∀ b o, b ≠ e → h0.get? b = some o → h1.get? b = some o) → h0.objs.size ≤ dx → dx ≠ e → h1.get? e = some { cls := .ref C, dict := some dx, data := .fields fv } →
      h1.Ns1 dx (fun y => if y = fld then some u else none) → R (.ok (.ret .none)) ⟨h1, g0, d0, t1, o0⟩) :
    codeAny (model prog w) A (.call (.builtin "object.__setattr__") ⟨[.ref e, .str fld tk, u], []⟩) R ⟨h0, g0, d0, t0, o0⟩ := by
  have J : InstAt h0 e { cls := .ref C, data := .fields fv } C none := ⟨he, rfl, rfl, trivial⟩
  have SO := PySem.F.store_object
  have hob2 : cd.mro.contains (.type "object") = true := by rw [hm, List.contains_cons, hob, Bool.or_true]
  have ne2 : cd.mro.isEmpty = false := by rw [hm]; rfl
  have hes : e ≠ h0.objs.size := Nat.ne_of_lt (Heap.lt_size he)
  have subE : Looks (model prog w) h0 (isInstance (.ref e) (.type "object")) true := J.type.andThen (looks_mroIn KX (by unfold mroIn; rw [hcd, Option.bind_some, if_neg (by rw [ne2]; decide), hob2]))
  refine codeAny_call_builtin SO.slot.plain SO.entry (@check_slot (model prog w) _ _ ⟨h0, g0, d0, t0, o0⟩ "object.__setattr__" "object" "__setattr__" (.ref e) [.str fld tk, u] [] _ SO.kind SO.split subE (SO.args (.ref e) (.str fld tk) u) ?_)
  have mroE : Looks (model prog w) h0 (mroOf (.ref C)) cd.mro := (looks_clsIn KX hcd).andThen .now
  have takE : Looks (model prog w) h0 (storeTaker? none) none := .now
  have clsE : Looks (model prog w) h0 (classData C) cd := looks_clsIn KX hcd
  rw [osa_eq, refuse_eq]
  refine wpAny_bind (wpAny_bind (J.type.at (wpAny_bind (mroE.at ?_))))
  rw [hm, refuseLoop_ref, pass]
  refine wpAny_pure (wpAny_bind (J.type.at (wpAny_bind ((looks_findIn KX hno).at (wpAny_bind (takE.at ?_))))))
  show wpAny _ _ (storeInOwnDict (.ref e) (.ref C) (.str fld tk) fld u false) _ _ _
  obtain ⟨c1, c2, c3, c4, c5, c6, c7, c8, c9, c10, c11⟩ := cd
  dsimp only at hh
  subst hh
  unfold storeInOwnDict; unfold ownDictForStores
  repeat (first | with_reducible refine store_in_new ?_ ?_ | with_reducible refine wpAny_loadPart_at he ?_ | with_reducible refine clsE.at ?_ | wp_step)
  · exact ⟨_, #[], _, (Heap.get?_update_ne _ _ _ _ hes.symm).trans (Heap.get?_push_at rfl rfl), rfl, fun e he => absurd he (by simp), fun _ => rfl⟩
  · intro h1 t1 hn1 hs1
    have he1 : (h0.push { cls := .type "dict", data := .dict #[] }).get? e = some { cls := .ref C, data := .fields fv } := Heap.get?_push_of_some _ he
    refine k h1 t1 h0.objs.size (fun b o hb ho => ?_) (Nat.le_refl _) hes.symm ?_ hn1
    · exact (hs1.2 b (Nat.ne_of_lt (Heap.lt_size ho))).trans ((Heap.get?_update_ne _ _ _ _ hb).trans (Heap.get?_push_of_some _ ho))
    · exact (hs1.2 e hes).trans (Heap.get?_update_self _ he1 rfl)
end
section
variable {X : Cx} {ps : List (Addr × Obj)} {σ : L2.St} {H : Hp} {s : Shared} {a C : Addr} {f : Str} {y : V} {u : Value} {Q : Unit → Shared → Prop} {E : Value → Shared → Prop} {A : Around}
/-- self.f = y of such an error, its only field -/
theorem exb_put (T : OexB X.K C) (I : Inv X ps σ H s) (e : H a = some (exo a C none)) (hno : PySem.W.findIn X.K (.ref C) f = some none) (ry : RelV y u)
    (h : ∀ dx s', H dx = none → dx ≠ a → Inv X ps σ (upd (upd H dx (exd dx [(f, y)])) a (exo a C (some dx))) s' → Q () s') : wpAny (model X.prog X.w) A (setAttr (.ref a) f u) Q E s := by
  obtain ⟨B, n1, n2, bm, FB, pass, hob, nm, q, N, bs, sn, sub, ab, col, dd, k0, k1, k2, k3, k5, hC⟩ := T.ex
  have hcl : PySem.W.clsIn X.K C = some { name := nm, bases := bs, mro := .ref C :: bm, ns := N, qualname := q, hasDict := true, slotNames := sn, subclasses := sub, abstract := ab, collection := col, hasDel := false } := by
    unfold PySem.W.clsIn; rw [hC]
  obtain ⟨tt, ho⟩ := exo_at I.hok e
  obtain ⟨h0, g0, d0, t0, o0⟩ := s
  refine PySem.W.set_plain I.kIn (ox := { cls := .ref C, dict := none, data := .fields #[.ref tt, .none, .none, .none, .bool false, .none] }) (od := none) ⟨ho, rfl, rfl, trivial⟩ T.sa ?_
  refine exb_set I.kIn ho hcl rfl pass hob rfl hno (fun h1 tk1 dx kp dn dne hx hn => ?_)
  have fr : H dx = none := I.hok.fresh dn
  have nd : ∀ {b : Addr} {o : Obj}, h0.get? b = some o → b ≠ dx := fun {b o} z => Nat.ne_of_lt (Nat.lt_of_lt_of_le (Heap.lt_size z) dn)
  have na : ∀ {b : Addr}, H b = none → b ≠ a := fun {b} n z => by rw [z, e] at n; cases n
  have U : Un X.fs [] H (upd (upd H dx (exd dx [(f, y)])) a (exo a C (some dx))) h0 h1 := {
    keep := fun b o z n _ _ => kp b o (na n) z
    slot := fun b o z n _ _ => ⟨o.slots, kp b o (na n) z⟩
    free := fun b o z n _ => by rw [upd_ne (na n), upd_ne (nd z)]; exact n
    there := fun b o z _ => by
      by_cases hb : b = a
      · exact ⟨_, by rw [hb]; exact hx⟩
      · exact ⟨o, kp b o hb z⟩
    tups := fun b xs z => by rw [upd_ne (at_ne e z exo_tup), upd_ne (ne_of_none z fr)]; exact z
    frzs := fun b o v z => by rw [upd_ne (at_ne e z exo_frz), upd_ne (ne_of_none z fr)]; exact z
    tbls := fun b ps z => ⟨#[], by rw [upd_ne (at_ne e z exo_tbl), upd_ne (ne_of_none z fr), z]; simp⟩ }
  refine h dx _ fr dne (I.un (t' := tk1) U fun b o z => ?_)
  by_cases hb : b = a
  · subst hb
    rw [upd_same] at z
    cases z
    exact exo_ok hx
  · rw [upd_ne hb] at z
    by_cases hd : b = dx
    · subst hd
      rw [upd_same] at z
      cases z
      exact exd_ok hn (relO_put (fs := []) ry fun g => True.intro)
    · rw [upd_ne hd] at z
      exact (I.hok b o z).stay (fun c v hc w => kp c v (by
          rcases hc with hc | hc
          · rw [hc]; exact hb
          · exact at_ne e hc exo_own) w)
        (fun c hc => by rw [upd_ne (at_ne e hc exo_own), upd_ne (ne_of_none hc fr)]; exact hc) (fun c xs hc => by rw [upd_ne (at_ne e hc exo_tup), upd_ne (ne_of_none hc fr)]; exact hc)
end
def tOstB (K : PySem.W.Frag) (f : Str) (to te : TE) : TS := fun D σ H => te σ H fun y H1 => to σ H1 fun x H2 => ∃ a C : Addr, x = .ref a ∧ OexB K C ∧ PySem.W.findIn K (.ref C) f = some none ∧ H2 a = some (exo a C none) ∧ ∀ dx, H2 dx = none → dx ≠ a → D.nx σ (upd (upd H2 dx (exd dx [(f, y)])) a (exo a C (some dx)))
theorem ps_gOstB {X : Cx} {K : PySem.W.Frag} {o e : Expr} {f : Str} {to te : TE} {p' pos : Pos} (hK : X.K = K) (ho : PE X o to) (he : PE X e te) (hs : swapsWith e (some (.Attribute o f p')) pos.line X.env = pure false := by rfl) : PS X (.Assign [.Attribute o f p'] e pos) (tOstB K f to te) := by
  subst hK
  refine ⟨fun ps s0 σ H D I h => ?_⟩
  refine plainObj_wpAny_Assign_Attribute (thn (he.run ps s0 σ H _ I h) fun v s1 hv => thn (ho.run ps s1 σ hv.choose_spec.choose _ hv.choose_spec.choose_spec.1 hv.choose_spec.choose_spec.2.2) fun u s2 hu => ?_) hs
  obtain ⟨x, H2, I2, r2, a, C, ex, T, hno, ea, q⟩ := hu
  subst ex
  obtain rfl : u = Value.ref a := r2
  exact exb_put T I2 ea hno hv.choose_spec.choose_spec.2.1 fun dx s' n ne J => ⟨σ, _, J, q dx n ne⟩
theorem r_ostB {K : PySem.W.Frag} {f : Str} {to te : TE} {σ : L2.St} {H : Hp} {nx bk ct : L2.St → Hp → Prop} {rt : VK} (q : te σ H fun y H1 => to σ H1 fun x H2 => ∃ a C : Addr, x = .ref a ∧ OexB K C ∧ PySem.W.findIn K (.ref C) f = some none ∧ H2 a = some (exo a C none) ∧ ∀ dx, H2 dx = none → dx ≠ a → nx σ (upd (upd H2 dx (exd dx [(f, y)])) a (exo a C (some dx)))) : tOstB K f to te ⟨nx, rt, bk, ct⟩ σ H := q
/-- __init__ of such an error -/
def sp_exb (K : PySem.W.Frag) (f : Str) : Sp := fun vs H Q _ => ∃ (a C : Addr) (x : V), vs = [.ref a, x] ∧ OexB K C ∧ PySem.W.findIn K (.ref C) f = some none ∧ H a = some (exo a C none) ∧
  ∀ dx, H dx = none → dx ≠ a → Q .non (upd (upd H dx (exd dx [(f, x)])) a (exo a C (some dx)))
theorem pmk_exb {X : Cx} {CX : CXT} {x : Str} {C fI : Addr} {k : Nat} {fd : FuncData} {ns : List Str} {sp : Sp} {e : Expr} {es : List Expr} {ta : TA} {p pos : Pos} (T : OexB X.K C) (iC : PySem.W.findIn X.K (.ref C) "__init__" = some (some (.ref fI))) (tI : PySem.W.typeIn X.K (.ref fI) = some (.type "function"))
    (F1 : FnOk X.prog X.w X.K X.mg X.base CX k fI fd ns sp) (hr : Room (k + 1) X.A) (hb : Binds X.K fd ns []) (hx : Passes CX X (fun _ _ _ => False)) (hg : Gl X x) (hm : X.mg x = some (.ref C)) (ha : PA X (e :: es) ta)
    (hdb : (x == ("__debug__" : Str)) = false := by decide) (he : starEach (e :: es) X.env = (false, eval e X.env) :: starEach es X.env := by rfl) (hpl : (backTo pos (starEach es X.env)).any (·.1) = false := by rfl) : PMk X (.Call (.Name x p) (e :: es) [] pos) (tMkO C sp [] ta) := by
  intro ps s0 σ H Q I h
  obtain ⟨B, n1, n2, bm, FB, pass, hob, nm, q, N, bs, sn, sub, ab, col, dd, k0, k1, k2, k3, k5, hC⟩ := T.ex
  refine wpAny_Call_Name_kw (ld_glob I hg hm ?_ hdb)
  refine PySem.W.callWith_K (h₀ := X.base) I.ok.mod.kin T.kC (thn (ha.run pos ps s0 σ H _ I h) fun us s1 hu => ⟨hu.choose_spec.choose_spec.1.kIn, ?_⟩) he hpl
  obtain ⟨vs, H1, I1, r1, hz, q1⟩ := hu
  show wpAny _ _ (call (.ref C) us) _ _ _
  obtain ⟨h0, g0, d0, t0, o0⟩ := s1
  have lz : h0.objs.size ≤ h0.objs.size + 1 := Nat.le_succ _
  have hn : H1 (h0.objs.size + 1) = none := I1.hok.fresh lz
  have hq := q1 (h0.objs.size + 1) hn
  rw [List.append_nil] at hq
  have kk : ∀ b o, h0.get? b = some o → ((h0.push (PySem.W.kdv_tup us)).push (PySem.HandSPX.excO C h0.objs.size)).get? b = some o := fun b o z => Heap.get?_push_of_some _ (Heap.get?_push_of_some _ z)
  have hget : ((h0.push (PySem.W.kdv_tup us)).push (PySem.HandSPX.excO C h0.objs.size)).get? (h0.objs.size + 1) = some (PySem.HandSPX.excO C h0.objs.size) := by heap_get
  have I2 : Inv X ps σ (upd H1 (h0.objs.size + 1) (exo (h0.objs.size + 1) C none)) ⟨(h0.push (PySem.W.kdv_tup us)).push (PySem.HandSPX.excO C h0.objs.size), g0, d0, t0, o0⟩ :=
    I1.laid (t' := t0) (a := h0.objs.size + 1) (o := exo (h0.objs.size + 1) C none) (h' := (h0.push (PySem.W.kdv_tup us)).push (PySem.HandSPX.excO C h0.objs.size)) kk lz (exo_ok hget)
  have r2 : Vals (V.ref (h0.objs.size + 1) :: vs) (Value.ref (h0.objs.size + 1) :: us) := .cons rfl r1
  have hl : (Value.ref (h0.objs.size + 1) :: us).length = ns.length := by
    have z := r2.length
    rw [F1.len _ _ _ _ hq] at z
    exact z.symm
  have hus : us.length ≤ sizeLine := by
    rw [← Paired.length r1, sizeLine_eq]; omega
  have hb2 := hb ⟨(h0.push (PySem.W.kdv_tup us)).push (PySem.HandSPX.excO C h0.objs.size), g0, d0, t0, o0⟩ (Value.ref (h0.objs.size + 1) :: us) I2.kIn (by rw [List.append_nil]; exact hl)
  rw [List.append_nil] at hb2
  refine wpAny_call (PySem.HandSPX.call_own FB (fun _ => rfl) (I1.kIn _ _ hC) (PySem.W.looks_findIn I1.kIn iC) (fun self => PySem.W.bind_fn I1.kIn self tI) hus
    (codeAny_mono (F1.run _ X.stack _ _ ⟨Value.ref (h0.objs.size + 1) :: us, []⟩ (Value.ref (h0.objs.size + 1) :: us) _ _ (fun _ _ _ => False) (hr.make C us []) (I2.env0.make C us []) hb2 r2 hq) fun r s' hq' => ?_))
  match r, hq' with
  | .error er, hq' => exact hx ps σ _ _ er s' I2 hq'
  | .ok (.ret u), hq' =>
    obtain ⟨v, H2, os2, bare2, un2, hok2, rv, ev, d, fs, ea, ed, hd1, q2⟩ := hq'
    subst ev
    obtain ⟨h2, g2, d2, t2, os'⟩ := s'
    exact ⟨rv, mk_end (raises_own T.exC T.tyC) I1 lz kk un2 hok2 os2 bare2 ea ed hd1 q2⟩
  | .ok .next, hq' => exact hq'.elim
  | .ok .brk, hq' => exact hq'.elim
  | .ok .cont, hq' => exact hq'.elim
theorem mk_exb {K : PySem.W.Frag} {l : List Asn} {H : Hp} {C : Addr} {f : Str} {x : V} {Q : XK} (S : Sep l H) (T : OexB K C) (hno : PySem.W.findIn K (.ref C) f = some none) (k : ∀ d H', Sep (At d (.xd [(f, x)]) :: l) H' → Q (.ref C) (some d) H') : gMkO C (sp_exb K f) [] [x] H Q := by
  unfold gMkO
  refine ⟨by show 1 ≤ 1000; decide, fun a ha => ⟨a, C, x, rfl, T, hno, upd_same, fun dx hdx hne => ⟨rfl, dx, [(f, x)], upd_same, by rw [upd_ne hne]; exact upd_same, ?_, ?_⟩⟩⟩
  · rw [upd_ne hne] at hdx; exact hdx
  · have hd1 : H dx = none := by rw [upd_ne hne] at hdx; exact hdx
    refine k dx _ (S.ext1 (fun b o e => ?_) hd1 upd_same)
    have hb : b ≠ dx := fun z => by rw [z, hd1] at e; cases e
    have hba : b ≠ a := fun z => by rw [z, ha] at e; cases e
    rw [upd_ne hb, del_ne hba, upd_ne hba, upd_ne hb, upd_ne hba]
    exact e
/-- a test that is a value's truth -/
def tTrR (r : V → Hp → (Bool → Hp → Prop) → Prop) (ta : TE) : TT := fun σ H Q => ta σ H fun x H1 => r x H1 Q
theorem pt_truthR {X : Cx} {a : Expr} {ta : TE} {r : V → Hp → (Bool → Hp → Prop) → Prop} (ha : PE X a ta) (hr : TruR X r) (he : ∀ whole, isTrue a X.env whole = (do let v ← whole; standAt a.pos; holding [v] (truthy v))) : PT X a (tTrR r ta) := by
  refine ⟨fun ps s0 σ H Q I h => isTrue_plain (thn (ha.run ps s0 σ H _ I h) fun v s1 hv => ?_) (he _)⟩
  obtain ⟨x, H1, I1, r1, q1⟩ := hv
  exact hr ps s1 σ H1 x v Q I1 r1 q1
theorem r_trR {σ : L2.St} {H : Hp} {ta : TE} {r : V → Hp → (Bool → Hp → Prop) → Prop} {Q : Bool → Hp → Prop} (q : ta σ H fun x H1 => r x H1 Q) : tTrR r ta σ H Q := q
/-- a call within a try: its wish may speak of the slots -/
theorem run_fnS {X : Cx} {CX : CXT} {k : Nat} {f : Addr} {sp : Sp} {E : XK} {Q : VK} {us : List Value} {vs : List V} {ps : List (Addr × Obj)} {σ : L2.St} {H : Hp} {s : Shared} (F : FnR X.prog X.w X.K X.mg X.base CX k f sp) (hr : Room k X.A) (hx : PassesAt CX X σ E) (I : Inv X ps σ H s) (r : Vals vs us) (h : sp vs H Q E) :
    codeAny (model X.prog X.w) X.A (.call (.ref f) ⟨us, []⟩) (fun r s' => match r with | .ok (.ret v) => EP X ps σ Q v s' | .ok _ => False | .error e => X.xe e s') s := by
  refine codeAny_mono (F X.A X.stack s H us vs Q E hr I.env0 r h) fun r s' hq => ?_
  match r, hq with
  | .error e, hq => exact hx ps H s e s' I hq
  | .ok (.ret u), hq => exact I.after hq
  | .ok .next, hq => exact hq.elim
  | .ok .brk, hq => exact hq.elim
  | .ok .cont, hq => exact hq.elim
/-- a op b, own, within a try -/
def tOpS (C : Addr) (sp : Sp) (E : L2.St → XK) (ta tb : TE) : TE := fun σ H Q => ta σ H fun x H1 => tb σ H1 fun y H2 => rBinOwn C sp (E σ) x y H2 Q
theorem pe_opS {X : Cx} {CX : CXT} {n : Nat} {f C : Addr} {sp : Sp} {E : L2.St → XK} {op : Operator} {a b : Expr} {ta tb : TE} {pos : Pos} (hm : Meth X.K C (PySem.dunder op.info.2) f) (hs : PySem.W.selfFirst X.K C = true) (F : FnR X.prog X.w X.K X.mg X.base CX n f sp) (hr : Room n X.A) (hx : ∀ σ, PassesAt CX X σ (E σ)) (ha : PE X a ta) (hb : PE X b tb) : PE X (.BinOp a op b pos) (tOpS C sp E ta tb) := by
  refine ⟨fun ps s0 σ H Q I h => wpAny_BinOp (binT ha hb I h fun v u s2 x y H2 I2 rx ry q => ?_)⟩
  obtain ⟨p, dx, fs, p2, dy, gs, rfl, rfl, h1, h2, q⟩ := q
  cases (show v = Value.ref p from rx)
  cases (show u = Value.ref p2 from ry)
  obtain ⟨ox, od, J⟩ := ins_inst I2 h1
  obtain ⟨oy, ody, J2⟩ := ins_inst I2 h2
  obtain ⟨m, hF⟩ := I2.fr
  refine PySem.W.binop_K hF I2.ok.mod.kin J J2.type hs hm.at_ hm.fn ?_
  refine wpAny_mono (wpAny_call (run_fnS (us := [.ref p, .ref p2]) (vs := [.ref p, .ref p2]) F hr (hx σ) I2 (.cons rfl (.cons rfl .nil)) q)) (fun w s' z => ?_) fun _ _ y => y
  obtain ⟨z', H', I', rz, qz⟩ := z
  exact SlX.cmpback rz ⟨z', H', I', rz, qz⟩
theorem r_opS {C : Addr} {sp : Sp} {E : L2.St → XK} {ta tb : TE} {σ : L2.St} {H : Hp} {Q : VK} (q : ta σ H fun x H1 => tb σ H1 fun y H2 => rBinOwn C sp (E σ) x y H2 Q) : tOpS C sp E ta tb σ H Q := q
end
local macro_rules | `(tactic| walk_at "v1") => `(tactic| (first
  | with_reducible refine r_trR ?_
  | with_reducible refine r_opS ?_))
local macro_rules | `(tactic| walk_at "v1") => `(tactic| with_reducible refine r_ostB ?_)

/-! methods of built-in values within a try -/
section
open PyProof.Rows
theorem pe_gBm {X : Cx} {K : PySem.W.Frag} {o e : Expr} {es : List Expr} {to : TE} {t : TA} {name : Str} {apos cpos : Pos} {T id : String} {r : V → List V → Hp → VK → Prop} (hK : X.K = K) (pa : PlainAttrs T) (slot : Slot T name id) (hty : typeOf (.builtin id) = pure (.type "method_descriptor")) (hm : MtR X id r) (ho : PE X o to) (ha : PA X (e :: es) t)
    (hbase : attributeBase o name X.env (eval o X.env) = eval o X.env := by rfl)
    (hfew : ((backTo cpos (starEach (e :: es) X.env)).all (fun x => !x.1) && (backToKw cpos (keywordEach [] X.env)).all (fun x => x.1.isSome)
      && decide ((e :: es).length + ([] : List Keyword).length + (if ([] : List Keyword).isEmpty then 0 else 1) < 30)) = true := by rfl)
    (hline : (apos.endLine == cpos.line) = true := by rfl) (hs : starEach (e :: es) X.env = (false, eval e X.env) :: starEach es X.env := by rfl) (hplain : (backTo cpos (starEach es X.env)).any (·.1) = false := by rfl) :
    PE X (.Call (.Attribute o name apos) (e :: es) [] cpos) (tBM K T r to t) := by
  subst hK
  exact pe_bm pa slot hty hm ho ha hbase hfew hline hs hplain
theorem pe_gBm0 {X : Cx} {K : PySem.W.Frag} {o : Expr} {to : TE} {name : Str} {apos cpos : Pos} {T id : String} {r : V → List V → Hp → VK → Prop} (hK : X.K = K) (pa : PlainAttrs T) (slot : Slot T name id) (hty : typeOf (.builtin id) = pure (.type "method_descriptor")) (hm : MtR X id r) (ho : PE X o to)
    (hbase : attributeBase o name X.env (eval o X.env) = eval o X.env := by rfl) (hline : (apos.endLine == cpos.line) = true := by rfl) : PE X (.Call (.Attribute o name apos) [] [] cpos) (tBM0 K T r to) := by
  subst hK
  exact pe_bm0 pa slot hty hm ho hbase hline
/-- not e as a value, by the truth of an own object -/
def tNotR (r : V → Hp → (Bool → Hp → Prop) → Prop) (ta : TE) : TE := fun σ H Q => ta σ H fun x H1 => r x H1 fun b H2 => Q (.bl (!b)) H2
theorem pe_notR {X : Cx} {a : Expr} {ta : TE} {pos : Pos} {r : V → Hp → (Bool → Hp → Prop) → Prop} (ha : PE X a ta) (hr : TruR X r) : PE X (.UnaryOp .Not a pos) (tNotR r ta) := by
  refine ⟨fun pins s σ H Q I h => ?_⟩
  refine UnaryOp_ (thn (ha.run pins s σ H _ I h) fun v s1 ⟨x, H1, I1, r1, q1⟩ => ?_)
  exact not_of (thn (hr pins s1 σ H1 x v (fun c H2 => Q (.bl (!c)) H2) I1 r1 q1) fun c s2 ⟨H2, I2, q2⟩ => ⟨.bl (!c), H2, I2, rfl, q2⟩)
theorem r_notR {σ : L2.St} {H : Hp} {ta : TE} {r : V → Hp → (Bool → Hp → Prop) → Prop} {Q : VK} (q : ta σ H fun x H1 => r x H1 fun b H2 => Q (.bl (!b)) H2) : tNotR r ta σ H Q := q
end
local macro_rules | `(tactic| walk_at "v1") => `(tactic| with_reducible refine r_notR ?_)

/-! texts split at a sign, every other item of a list, zip of a list and a tuple -/
section
open PyProof.Rows
/-! ### x.split(c) by its parts -/
def jl (c : Nat) : List (List Nat) → List Nat
  | [] => []
  | [a] => a
  | a :: b :: l => a ++ c :: jl c (b :: l)
theorem app_inj {c : Nat} : ∀ {a b : List Nat} {r s : List Nat}, c ∉ a → c ∉ b → a ++ c :: r = b ++ c :: s → a = b ∧ r = s
  | [], [], r, s, _, _, h => ⟨rfl, (List.cons.inj h).2⟩
  | [], y :: b, r, s, _, hb, h => (hb ((List.cons.inj h).1 ▸ List.mem_cons_self)).elim
  | x :: a, [], r, s, ha, _, h => (ha ((List.cons.inj h).1 ▸ List.mem_cons_self)).elim
  | x :: a, y :: b, r, s, ha, hb, h => by
    have h1 := List.cons.inj h
    have h2 := app_inj (a := a) (b := b) (fun z => ha (List.mem_cons_of_mem _ z)) (fun z => hb (List.mem_cons_of_mem _ z)) h1.2
    exact ⟨by rw [h1.1, h2.1], h2.2⟩
theorem jl_inj {c : Nat} : ∀ {xs ys : List (List Nat)}, xs ≠ [] → ys ≠ [] → (∀ a ∈ xs, c ∉ a) → (∀ b ∈ ys, c ∉ b) → jl c xs = jl c ys → xs = ys
  | [], _, hx, _, _, _, _ => (hx rfl).elim
  | _, [], _, hy, _, _, _ => (hy rfl).elim
  | [a], [b], _, _, _, _, h => by rw [show a = b from h]
  | [a], b :: b' :: ys, _, _, ha, _, h => by
    have h' : a = b ++ c :: jl c (b' :: ys) := h
    exact (ha a List.mem_cons_self (by rw [h']; simp)).elim
  | a :: a' :: xs, [b], _, _, _, hb, h => by
    have h' : a ++ c :: jl c (a' :: xs) = b := h
    exact (hb b List.mem_cons_self (by rw [← h']; simp)).elim
  | a :: a' :: xs, b :: b' :: ys, _, _, ha, hb, h => by
    have h' : a ++ c :: jl c (a' :: xs) = b ++ c :: jl c (b' :: ys) := h
    have h1 := app_inj (ha a List.mem_cons_self) (hb b List.mem_cons_self) h'
    have h2 := jl_inj (xs := a' :: xs) (ys := b' :: ys) (by simp) (by simp) (fun x hx => ha x (List.mem_cons_of_mem _ hx)) (fun x hx => hb x (List.mem_cons_of_mem _ hx)) h1.2
    rw [h1.1, h2]
theorem cps_app (x y : Str) : (x ++ y).cps.toList = x.cps.toList ++ y.cps.toList := Array.toList_append
theorem join_jl {c : Nat} : ∀ ts : List Str, (Str.join ⟨#[c]⟩ ts).cps.toList = jl c (ts.map fun t => t.cps.toList)
  | [] => rfl
  | [t] => rfl
  | t :: u :: l => by
    show (t ++ (⟨#[c]⟩ : Str) ++ Str.join ⟨#[c]⟩ (u :: l)).cps.toList = _
    rw [cps_app, cps_app, join_jl (u :: l)]
    show t.cps.toList ++ [c] ++ _ = t.cps.toList ++ c :: _
    rw [List.append_assoc]; rfl
theorem split_nn (x y : Str) : Txt.split x y ≠ [] := by
  unfold Txt.split
  split
  · simp
  · split
    · simp
    · unfold Builtin.Str.partsBetween
      simp only []
      cases Builtin.Str.occurrences x y 0 x.length (x.length + 1) <;> simp
theorem str_eq_of {x y : Str} (h : x.cps.toList = y.cps.toList) : x = y := by
  obtain ⟨⟨a⟩⟩ := x; obtain ⟨⟨b⟩⟩ := y
  rw [show a = b from h]
theorem map_cps_inj : ∀ {xs ys : List Str}, xs.map (fun t => t.cps.toList) = ys.map (fun t => t.cps.toList) → xs = ys
  | [], [], _ => rfl
  | [], y :: ys, h => by cases h
  | x :: xs, [], h => by cases h
  | x :: xs, y :: ys, h => by
    have h1 := List.cons.inj h
    rw [str_eq_of h1.1, map_cps_inj h1.2]
/-- x is these parts, c in none of them -/
theorem split_is {x : Str} {ts : List Str} {c : Nat} (h : Str.join ⟨#[c]⟩ ts = x) (hn : ts ≠ []) (hf : ∀ p ∈ ts, c ∉ p.cps.toList) : Txt.split x ⟨#[c]⟩ = ts := by
  have h1 := StrLaws.join_split x ⟨#[c]⟩
  have h2 : jl c ((Txt.split x ⟨#[c]⟩).map fun t => t.cps.toList) = jl c (ts.map fun t => t.cps.toList) := by
    rw [← join_jl, ← join_jl, h1, h]
  refine map_cps_inj (jl_inj (by simpa using split_nn x ⟨#[c]⟩) (by simpa using hn) ?_ ?_ h2)
  · intro a ha
    obtain ⟨t, ht, rfl⟩ := List.mem_map.1 ha
    exact StrLaws.split_free x c t ht
  · intro a ha
    obtain ⟨t, ht, rfl⟩ := List.mem_map.1 ha
    exact hf t ht
def gSplit : V → List V → Hp → VK → Prop := fun x xs H Q => ∃ a b, x = .str a ∧ xs = [.str b] ∧ (b.length == 0) = false ∧ a.length + 2 ≤ sizeLine ∧ rNewStrs (Txt.split a b) H Q
theorem mt_gSplit {X : Cx} : MtR X "str.split" gSplit := mt_split
theorem m_split {l : List Asn} {H : Hp} {Q : VK} {a sep : Str} {c : Nat} (S : Sep l H) (hz : a.length ≤ 3000) (hs : sep = ⟨#[c]⟩) (k : ∀ D H', Sep (At D (.lst ((Txt.split a ⟨#[c]⟩).map V.str)) :: l) H' → Q (.ref D) H') : gSplit (.str a) [.str sep] H Q := by
  subst hs
  exact ⟨a, ⟨#[c]⟩, rfl, rfl, rfl, Nat.le_trans (Nat.add_le_add_right hz 2) (by decide), fun D hD => k D _ (S.new hD)⟩
theorem jl_mem {c : Nat} : ∀ {xs : List (List Nat)} {a : List Nat}, a ∈ xs → a.length ≤ (jl c xs).length
  | [x], a, h => by rw [List.mem_singleton.1 h]; exact Nat.le_refl _
  | x :: y :: l, a, h => by
    show _ ≤ (x ++ c :: jl c (y :: l)).length
    rw [List.length_append, List.length_cons]
    rcases List.mem_cons.1 h with rfl | h
    · omega
    · have := jl_mem (c := c) h
      omega
theorem jl_cnt {c : Nat} : ∀ xs : List (List Nat), xs.length ≤ (jl c xs).length + 1
  | [] => Nat.zero_le _
  | [x] => by simp
  | x :: y :: l => by
    have h := jl_cnt (c := c) (y :: l)
    show _ ≤ (x ++ c :: jl c (y :: l)).length + 1
    simp only [List.length_append, List.length_cons] at h ⊢
    omega
theorem split_jl (x : Str) (c : Nat) : jl c ((Txt.split x ⟨#[c]⟩).map fun t => t.cps.toList) = x.cps.toList := by rw [← join_jl, StrLaws.join_split]
theorem split_mem {x p : Str} {c : Nat} (h : p ∈ Txt.split x ⟨#[c]⟩) : p.length ≤ x.length := by
  have h1 := jl_mem (c := c) (List.mem_map.2 ⟨p, h, rfl⟩ : p.cps.toList ∈ (Txt.split x ⟨#[c]⟩).map fun t => t.cps.toList)
  rw [split_jl] at h1
  simpa [Str.length] using h1
theorem split_cnt (x : Str) (c : Nat) : (Txt.split x ⟨#[c]⟩).length ≤ x.length + 1 := by
  have h1 := jl_cnt (c := c) ((Txt.split x ⟨#[c]⟩).map fun t => t.cps.toList)
  rw [split_jl, List.length_map] at h1
  simpa [Str.length] using h1
/-- int(text), text of a digit -/
def gIntS : List V → Hp → VK → Prop := fun xs H Q => ∃ a n, xs = [.str a] ∧ PySem.intText? a = some n ∧ a.length ≤ 640 ∧ Q (.int n) H
theorem call_gIntS {X : Cx} : CallR X (.type "int") gIntS := call_int_str
def dig (n : Nat) : Str := ⟨#[48 + n]⟩
theorem dig_int : ∀ n : Fin 10, PySem.intText? (dig n) = some ((n : Nat) : Int) := by decide +kernel
theorem dig_of : ∀ n : Fin 10, Str.ofString (toString ((n : Nat) : Int)) = dig n := by decide +kernel
theorem c_intS {H : Hp} {Q : VK} {n : Nat} (h : n < 10) (q : Q (.int (n : Nat)) H) : gIntS [.str (dig n)] H Q := ⟨dig n, _, rfl, dig_int ⟨n, h⟩, by show 1 ≤ 640; decide, q⟩
/-! ### every other item -/
def ev {α : Type} : List α → List α
  | [] => []
  | [x] => [x]
  | x :: _ :: l => x :: ev l
theorem ev_len {α : Type} : ∀ l : List α, (ev l).length = (l.length + 1) / 2
  | [] => by simp [ev]
  | [x] => by simp [ev]
  | x :: y :: l => by
    show (ev l).length + 1 = _
    rw [ev_len l]
    show _ = (l.length + 1 + 1 + 1) / 2
    omega
theorem ev_map {α β : Type} (f : α → β) : ∀ l : List α, ev (l.map f) = (ev l).map f
  | [] => rfl
  | [x] => rfl
  | x :: y :: l => by
    show f x :: ev (l.map f) = f x :: (ev l).map f
    rw [ev_map f l]
theorem ev_mem {α : Type} : ∀ {l : List α} {x : α}, x ∈ ev l → x ∈ l
  | [x], y, h => h
  | x :: y :: l, z, h => by
    rcases List.mem_cons.1 h with rfl | h
    · exact List.mem_cons_self
    · exact List.mem_cons_of_mem _ (List.mem_cons_of_mem _ (ev_mem h))
theorem ev_vals : ∀ {xs : List V} {vs : List Value}, Vals xs vs → Vals (ev xs) (ev vs)
  | _, _, .nil => .nil
  | _, _, .cons r .nil => .cons r .nil
  | _, _, .cons r (.cons _ h) => .cons r (ev_vals h)
theorem ev_get {α : Type} : ∀ (l : List α) (k : Nat), (ev l)[k]? = l[2 * k]?
  | [], k => by simp [ev]
  | [x], 0 => rfl
  | [x], k + 1 => by
    rw [List.getElem?_eq_none (by simp [ev]), List.getElem?_eq_none (by simp; omega)]
  | x :: y :: l, 0 => rfl
  | x :: y :: l, k + 1 => by
    show (x :: ev l)[k + 1]? = _
    rw [List.getElem?_cons_succ, ev_get l k, show 2 * (k + 1) = 2 * k + 1 + 1 by omega, List.getElem?_cons_succ, List.getElem?_cons_succ]
theorem fm_get {α β : Type} {f : β → Option α} : ∀ {ks : List β} {l : List α}, ks.length = l.length → (∀ (i : Nat) (k : β), ks[i]? = some k → f k = l[i]?) → ks.filterMap f = l
  | [], [], _, _ => rfl
  | [], y :: l, h, _ => by simp at h
  | k :: ks, [], h, _ => by simp at h
  | k :: ks, y :: l, h, g => by
    have h1 : f k = some y := g 0 k rfl
    rw [List.filterMap_cons, h1]
    exact congrArg (y :: ·) (fm_get (by simpa using h) fun i k' e => by simpa using g (i + 1) k' (by simpa using e))
theorem sliceRange_two (a n : Nat) (h : a ≤ n) : sliceRange (a : Int) (n : Int) 2 = (List.range ((n - a + 1) / 2)).map fun k => a + 2 * k := by
  unfold sliceRange
  by_cases c : a < n
  · have e : (((n : Int) - (a : Int) + 2 - 1) / 2).toNat = (n - a + 1) / 2 := by omega
    have c' : (a : Int) < (n : Int) := by omega
    simp only [show (2 : Int) > 0 by decide, if_true, c', e]
    apply List.map_congr_left
    intro k _
    omega
  · have e : a = n := by omega
    subst e
    simp
theorem pick_two (its : List Value) (a : Nat) (ha : a ≤ its.length) : (((sliceRange (a : Int) (its.length : Int) 2).filterMap (its.toArray[·]?)).toArray : Array Value) = (ev (its.drop a)).toArray := by
  congr 1
  rw [sliceRange_two a _ ha]
  refine fm_get ?_ fun i k e => ?_
  · rw [List.length_map, List.length_range, ev_len, List.length_drop]
  · rw [List.getElem?_map] at e
    by_cases c : i < (its.length - a + 1) / 2
    · rw [List.getElem?_range c] at e
      cases e
      rw [ev_get, List.getElem?_drop]
      simp
    · rw [List.getElem?_eq_none (by simpa using Nat.le_of_not_lt c)] at e
      cases e
theorem pick_ev0 (its : List Value) : slicePick its.toArray none none (some 2) = (ev its).toArray := by
  have h := pick_two its 0 (Nat.zero_le _)
  rw [List.drop_zero] at h
  rw [← h]
  unfold slicePick sliceBounds
  simp
theorem pick_ev1 (its : List Value) : slicePick its.toArray (some 1) none (some 2) = (ev (its.drop 1)).toArray := by
  by_cases c : 1 ≤ its.length
  · have h := pick_two its 1 c
    rw [← h]
    unfold slicePick sliceBounds
    simp
    have e : min (1 : Int) (its.length : Int) = 1 := by omega
    rw [e]
    rfl
  · have e : its = [] := List.length_eq_zero_iff.1 (by omega)
    subst e
    decide +kernel
def evFrom (lo : Option Int) (xs : List V) : List V := match lo with | none => ev xs | some _ => ev (xs.drop 1)
def gSlEv (K : PySem.W.Frag) (x : V) (lo : Option Int) (H2 : Hp) (Q : VK) : Prop := (lo = none ∨ lo = some 1) ∧ ∃ a xs, x = .ref a ∧ SqL K H2 a xs ∧ ∀ p, H2 p = none → Q (.ref p) (upd H2 p (.lst (evFrom lo xs)))
def tSlEv (K : PySem.W.Frag) (te : TE) (tl : TO) : TE := fun σ H Q => te σ H fun x H1 => tl σ H1 fun lo H2 => gSlEv K x lo H2 Q
theorem pe_sliceEv {X : Cx} {K : PySem.W.Frag} {e : Expr} {lo : Option Expr} {te : TE} {tl : TO} {k : Nat} {p1 p3 pos : Pos} (hK : X.K = K) (he : PE X e te) (hl : PO X lo tl) : PE X (.Subscript e (.Slice lo none (some (.Constant (.int 2) k p1)) p3) pos) (tSlEv K te tl) := by
  subst hK
  refine ⟨fun pins s σ H Q I h => Subscript_ (thn (he.run pins s σ H _ I h) fun v s1 z => ?_)⟩
  obtain ⟨x, H1, I1, r1, q1⟩ := z
  refine wpAny_Slice (thn (hl.run pins s1 σ H1 _ I1 q1) fun vl s2 z => ?_)
  obtain ⟨o, H2, I2, pl, ho, a, xs, rfl, hx, q⟩ := z
  cases (show v = Value.ref a from r1)
  refine thn ((po_none (X := X)).run pins s2 σ H2 (fun o H3 => o = none ∧ H3 = H2) I2 ⟨rfl, rfl⟩) fun vu s3 z => ?_
  obtain ⟨u, H3, I3, pu, rfl, rfl⟩ := z
  have two : PO X (some (.Constant (.int 2) k p1)) (tPart (tC (.int 2))) := po_some pe_int
  refine thn (two.run pins s3 σ H3 (fun o H4 => o = some 2 ∧ H4 = H3) I3 ⟨2, rfl, rfl, rfl⟩) fun vs s4 z => ?_
  obtain ⟨o4, H4, I4, ps, rfl, rfl⟩ := z
  have I5 : Inv X pins σ H4 { s4 with heap := s4.heap.push { cls := .type "slice", data := .fields #[vl, vu, vs] } } := I4.kept (t' := s4.toks) fun b ob q => Heap.get?_push_of_some _ q
  obtain ⟨its, r, ht, hz⟩ := I5.list hx
  have hlen := r.length
  show wpAny (model X.prog X.w) X.A (subscriptTail e (.Slice lo none (some (.Constant (.int 2) k p1)) p3) (.ref a) (.ref s4.heap.objs.size)) (EP X pins σ Q) X.xe _
  refine tail_any (ops := [.ref a, .ref s4.heap.objs.size]) ht.isList.typeIs (PySem.slot_list_getitem.lookup) ?_ (by with_unfolding_all rfl)
  refine wpAny_getItem_list_slice ht.isList (Heap.IsSliceOf.new _ vl vu vs) pl pu ps (by decide) ?_ (by rw [List.size_toArray]; omega)
  have fin : ∀ (ys : List V) (us : List Value), Vals ys us → ys.length ≤ xs.length → (∀ p, H4 p = none → Q (.ref p) (upd H4 p (.lst ys))) → EP X pins σ Q (.ref (s4.heap.push { cls := .type "slice", data := .fields #[vl, vu, vs] }).objs.size) { s4 with heap := (s4.heap.push { cls := .type "slice", data := .fields #[vl, vu, vs] }).push { cls := .type "list", data := .seq us.toArray } } := by
    intro ys us hv hle k
    exact ⟨.ref _, _, I5.laid (t' := s4.toks) (o := .lst ys) (fun b ob q => Heap.get?_push_of_some _ q) (Nat.le_refl _) ⟨Nat.le_trans hle hz, _, 0, hv, Heap.get?_push_size _ rfl⟩, rfl, k _ (I5.hok.fresh (Nat.le_refl _))⟩
  rcases ho with rfl | rfl
  · rw [pick_ev0]
    exact fin _ _ (ev_vals r) (by rw [ev_len]; omega) q
  · rw [pick_ev1]
    exact fin _ _ (ev_vals (r.drop 1)) (by rw [ev_len, List.length_drop]; omega) q
/-! ### zip of a list and a tuple -/
def ItzM (K : PySem.W.Frag) (a b : Addr) : L2.It :=
  ⟨fun i H => ∃ xs ys, SqL K H a xs ∧ SqT K H b ys ∧ i < xs.length ∧ i < ys.length,
   fun i H v H' => ∃ T x y, v = .ref T ∧ H T = none ∧ H' = upd H T (.tup [x, y]) ∧ (∀ xs, SqL K H a xs → xs[i]? = some x) ∧ (∀ ys, SqT K H b ys → ys[i]? = some y),
   fun i H => ∃ xs ys, SqL K H a xs ∧ SqT K H b ys ∧ i ≤ xs.length ∧ i ≤ ys.length ∧ (i = xs.length ∨ i = ys.length)⟩
def ZmAt (a b z TI TO i1 i2 : Addr) (i : Nat) (h : Heap) : Prop := IsZip h z TI TO .none ∧ IsTupOf2 h TI (.ref i1) (.ref i2) ∧ (∃ x y, IsTupOf2 h TO x y) ∧ h.IsListIter i1 a i ∧ h.IsTupleIter i2 b i
theorem turn_zipM {P : Program} {w : World} {K : PySem.W.Frag} {tg : Expr} {elts : List Expr} {kk : Nat} {tpos : Pos} {a b z TI TO i1 i2 : Addr} (S : ZipSep2 z TI TO i1 i2 [i1, a] [i2, b]) (n1 : a ≠ i1) (n2 : b ≠ i2) (htg : tg = .Tuple elts kk tpos) :
    Turn P w K tg (ItzM K a b) [z, TI, TO, i1, i2] z (ZmAt a b z TI TO i1 i2) := by
  subst htg
  have cells : ∀ {c : Addr}, c ∈ [z, TI, TO, i1, i2] → c = z ∨ c = TI ∨ c = TO ∨ c = i1 ∨ c = i2 := fun h => by simpa using h
  refine ⟨by simp, ?_, ?_, ?_, ?_, fun A i s Q E st h => wpAny_pyIter_zip st.1 h⟩
  · rintro i h ⟨hz, hTI, ⟨x, y, hTO⟩, ⟨o1, e1, _, d1⟩, o2, e2, _, d2⟩ c hc
    rcases cells hc with rfl | rfl | rfl | rfl | rfl
    · exact ⟨_, hz, nofun⟩
    · exact ⟨_, hTI, nofun⟩
    · exact ⟨_, hTO, nofun⟩
    · exact ⟨o1, e1, fun v => by rw [d1]; nofun⟩
    · exact ⟨o2, e2, fun v => by rw [d2]; nofun⟩
  · rintro i h h' ⟨hz, hTI, ⟨x, y, hTO⟩, t1, t2⟩ k
    exact ⟨k _ (by simp) _ hz, k _ (by simp) _ hTI, ⟨x, y, k _ (by simp) _ hTO⟩, t1.at fun o => k i1 (by simp) o, t2.at fun o => k i2 (by simp) o⟩
  · intro X hP hw hK hc i pins s σ H E I hf st hg
    subst hP hw hK
    obtain ⟨hz, hTI, ⟨x0, y0, hTO⟩, t1, t2⟩ := st
    obtain ⟨xs, ys, hx, hy, lx, ly⟩ := hg
    obtain ⟨its, rv, p1, _⟩ := I.list hx
    obtain ⟨jts, rw', p2, _⟩ := I.tuple hy
    have len1 : its.toArray.size = xs.length := by rw [List.size_toArray]; exact rv.length.symm
    have len2 : jts.toArray.size = ys.length := by rw [List.size_toArray]; exact rw'.length.symm
    have hdl : X.A.in1.handled = none := I.ok.hd hc
    have zl : z < s.heap.objs.size := Heap.lt_size hz
    refine wpAny_pyNext_zipD2_item S (Draws.list hdl i1 a n1 its.toArray) (Draws.tuple hdl i2 b n2 jts.toArray) hz hTI hTO ⟨t1, p1.isList⟩ ⟨t2, p2⟩ (by rw [len1]; exact lx) (by rw [len2]; exact ly) ?_
    intro u1 u2 h' tk g1 g2 z' TO' u1' u2' hT hsz hk
    refine ⟨_, rfl, wpAny_letOwnedTupleGo_zip (s := { s with heap := h', toks := tk }) z' fun h'' z'' sb => ?_⟩
    obtain ⟨x, ex, rx⟩ : ∃ x, xs[i]? = some x ∧ RelV x u1 := by
      obtain ⟨u, hu, ru⟩ := rv.get (List.getElem?_eq_getElem lx)
      refine ⟨_, List.getElem?_eq_getElem lx, ?_⟩
      have : its[i]? = some u1 := by simpa using g1
      rw [this] at hu
      cases hu
      exact ru
    obtain ⟨y, ey, ry⟩ : ∃ y, ys[i]? = some y ∧ RelV y u2 := by
      obtain ⟨u, hu, ru⟩ := rw'.get (List.getElem?_eq_getElem ly)
      refine ⟨_, List.getElem?_eq_getElem ly, ?_⟩
      have : jts[i]? = some u2 := by simpa using g2
      rw [this] at hu
      cases hu
      exact ru
    have pair : h''.get? s.heap.objs.size = some { cls := .type "tuple", data := .seq #[u1, u2] } := (sb.2 _ (Nat.ne_of_gt zl)).trans hT
    have ok : ObjOk X.prog X.w (upd H s.heap.objs.size (.tup [x, y])) h'' s.heap.objs.size (.tup [x, y]) := ⟨by show 2 ≤ sizeLine; decide, [u1, u2], .cons rx (.cons ry .nil), ⟨_, pair, rfl, _, rfl⟩⟩
    have out : ∀ c o, c ∉ [z, TI, TO, i1, i2] → s.heap.get? c = some o → h''.get? c = some o := fun c o hb q =>
      (sb.2 c (by rintro rfl; simp at hb)).trans (hk c o (by rintro rfl; simp at hb) (by rintro rfl; simp at hb) (by rintro rfl; simp at hb) (by rintro rfl; simp at hb) q)
    refine ⟨.ref s.heap.objs.size, upd H s.heap.objs.size (.tup [x, y]), I.turnedNew (t' := tk) (ch := [z, TI, TO, i1, i2]) out hf (Nat.le_refl _) ok, rfl, ⟨s.heap.objs.size, x, y, rfl, I.hok.fresh (Nat.le_refl _), rfl, fun l hl => by rw [I.list_inj hl hx]; exact ex, fun l hl => by rw [I.tuple_inj hl hy]; exact ey⟩, ⟨z'', (sb.2 _ S.TIz).trans (hk _ _ S.TIz S.TITO S.TIi1 S.TIi2 hTI), ⟨u1, u2, (sb.2 _ S.TOz).trans TO'⟩, u1'.1.at fun o => (sb.2 _ (Ne.symm S.zi1)).trans, u2'.1.at fun o => (sb.2 _ (Ne.symm S.zi2)).trans⟩, fun c hcm => ?_⟩
    obtain ⟨o1, e1, _⟩ := t1
    obtain ⟨o2, e2, _⟩ := t2
    have cl : c < s.heap.objs.size := by
      rcases cells hcm with rfl | rfl | rfl | rfl | rfl
      · exact zl
      · exact Heap.lt_size hTI
      · exact Heap.lt_size hTO
      · exact Heap.lt_size e1
      · exact Heap.lt_size e2
    rw [upd_ne (Nat.ne_of_lt cl)]
    exact (hf c hcm).1
  · intro X hP hw hK hc i pins s σ H E I hf st hg
    subst hP hw hK
    obtain ⟨hz, hTI, ⟨x0, y0, hTO⟩, t1, t2⟩ := st
    obtain ⟨xs, ys, hx, hy, lx, ly, hend⟩ := hg
    obtain ⟨its, rv, p1, _⟩ := I.list hx
    obtain ⟨jts, rw', p2, _⟩ := I.tuple hy
    have len1 : its.toArray.size = xs.length := by rw [List.size_toArray]; exact rv.length.symm
    have len2 : jts.toArray.size = ys.length := by rw [List.size_toArray]; exact rw'.length.symm
    have hdl : X.A.in1.handled = none := I.ok.hd hc
    refine wpAny_pyNext_zipD2_end S (Draws.list hdl i1 a n1 its.toArray) (Draws.tuple hdl i2 b n2 jts.toArray) hz hTI hTO ⟨t1, p1.isList⟩ ⟨t2, p2⟩ (by rw [len1]; exact lx) (by rw [len2]; exact ly) (by rw [len1, len2]; exact hend) ?_
    intro h' tk hk
    exact ⟨rfl, I.turnedL (t' := tk) (ch := [z, TI, TO, i1, i2]) (fun c o hb q => hk c o (by rintro rfl; simp at hb) (by rintro rfl; simp at hb) (by rintro rfl; simp at hb) (by rintro rfl; simp at hb) q) hf⟩
theorem zsep (n a b : Nat) (la : a < n) (lb : b < n) : ZipSep2 (n + 4) (n + 2) (n + 3) n (n + 1) [n, a] [n + 1, b] := by
  have out : ∀ {c d e : Nat}, c ≠ d → c ≠ e → c ∉ [d, e] := fun h1 h2 h => by
    rcases List.mem_cons.1 h with h | h
    · exact h1 h
    · exact h2 (List.mem_singleton.1 h)
  have g : ∀ {c d : Nat}, c < d → d ≠ c := fun h => Nat.ne_of_gt h
  have g' : ∀ {c d : Nat}, c < d → c ≠ d := fun h => Nat.ne_of_lt h
  exact ⟨g' (by omega), g' (by omega), g' (by omega), g (by omega), List.mem_cons_self, out (g (by omega)) (g (by omega)), out (g (by omega)) (g (by omega)), g (by omega), List.mem_cons_self, out (g (by omega)) (g (by omega)), out (g (by omega)) (g (by omega)), out (g' (by omega)) (g (by omega)), out (g (by omega)) (g (by omega))⟩
def iZipM (K : PySem.W.Frag) (ta : TA) : TI := fun σ H R => ta σ H fun vs H1 => ∃ a b xs ys, vs = [.ref a, .ref b] ∧ SqL K H1 a xs ∧ SqT K H1 b ys ∧ R (ItzM K a b) H1
theorem pi_zipM {X : Cx} {K : PySem.W.Frag} {e e2 : Expr} {ta : TA} {p pos tpos : Pos} {elts : List Expr} {kk : Nat} (hK : X.K = K) (hg : Gl X "zip") (hm : X.mg "zip" = none) (ha : PA X [e, e2] ta)
    (hs : starEach [e, e2] X.env = (false, eval e X.env) :: starEach [e2] X.env := by rfl) (hpl : (backTo pos (starEach [e2] X.env)).any (·.1) = false := by rfl) : PI X (.Tuple elts kk tpos) (.Call (.Name "zip" p) [e, e2] [] pos) (iZipM K ta) := by
  subst hK
  constructor
  intro pins s σ H R I h
  refine Call_ (ld_blt I hg hm PyProof.Rows.boot_zip (PyProof.Rows.callWith_type1 (thn (ha.run pos pins s σ H _ I h) fun us s1 z => ?_) hs hpl))
  obtain ⟨vs, H1, I1, r1, a, b, xs, ys, rfl, hx, hy, q⟩ := z
  obtain ⟨u1, u2, rfl, e1, e2⟩ := r1.two
  cases (show u1 = Value.ref a from e1)
  cases (show u2 = Value.ref b from e2)
  obtain ⟨its, rv, p1, _⟩ := I1.list hx
  obtain ⟨jts, rw', p2, _⟩ := I1.tuple hy
  have la : a < s1.heap.objs.size := p1.lt
  have lb : b < s1.heap.objs.size := by obtain ⟨o, e, _⟩ := id p2; exact Heap.lt_size e
  refine zip_begins2 (begins_list a its.toArray) (begins_tuple b jts.toArray) p1.isList p2 ?_
  intro h' hz hTI hTO h1 h2 hsz hk
  refine wpAny_pyIter_zip hz ?_
  have I2 : Inv X pins σ H1 { s1 with heap := h' } := I1.kept (t' := s1.toks) hk
  have sep := zsep s1.heap.objs.size a b la lb
  refine ⟨_, _, _, _, H1, rfl, I2, turn_zipM sep (Nat.ne_of_lt la) (Nat.ne_of_lt (Nat.lt_succ_of_lt lb)) rfl, ⟨hz, hTI, ⟨_, _, hTO⟩, ⟨_, h1, rfl, rfl⟩, ⟨_, h2, rfl, rfl⟩⟩, ?_, q⟩
  intro c hc
  have hle : s1.heap.objs.size ≤ c := by
    have h5 : c = s1.heap.objs.size + 4 ∨ c = s1.heap.objs.size + 2 ∨ c = s1.heap.objs.size + 3 ∨ c = s1.heap.objs.size ∨ c = s1.heap.objs.size + 1 := by simpa using hc
    show (_ : Nat) ≤ _
    rcases h5 with e | e | e | e | e <;> rw [e] <;> omega
  exact I1.fpOk hle (I1.hok.fresh hle)
section
variable {σ : L2.St} {H : Hp} {K : PySem.W.Frag} {g : TG} {tt : TT} {ta : TE} {tA : TA} {vs : List Nat} {Q : VK} {l : List Asn} {p q : Addr} {xs ys : List V} {i j : Nat} {te : TE} {tl : TO}
theorem r_lcZM (h : tA σ H fun us H1 => ∃ a b xs ys, us = [.ref a, .ref b] ∧ SqL K H1 a xs ∧ SqT K H1 b ys ∧ LcB (ItzM K a b) g tt ta vs σ H1 Q) : tLc (iZipM K tA) g tt ta vs σ H Q := h
/-- .. over zip(a list, a tuple) -/
theorem lcZM (S : Sep l H) (hi : l[i]? = some (At p (.lst xs))) (hj : l[j]? = some (Tp q ys)) (hn : ys.length ≤ xs.length) (Pv : Addr → Nat → Hp → Prop) (h0 : ∀ D H', Sep (At D (.lst []) :: l) H' → Pv D 0 H') (hl : ∀ D i H, Pv D i H → SqL K H p xs ∧ SqT K H q ys)
    (hs : ∀ D i x y T H H', xs[i]? = some x → ys[i]? = some y → Pv D i H → H T = none → H' = upd H T (.tup [x, y]) → LcT g tt ta vs σ (.ref T) D (Pv D (i + 1)) H') (hd : ∀ D H, Pv D ys.length H → Q (.ref D) H) :
    ∃ a b xs ys, [V.ref p, V.ref q] = [.ref a, .ref b] ∧ SqL K H a xs ∧ SqT K H b ys ∧ LcB (ItzM K a b) g tt ta vs σ H Q := by
  refine ⟨p, q, xs, ys, rfl, SqL.of (S.at hi), SqT.of (S.tp hj), fun D hD => ⟨fun i m H => m = ys.length - i ∧ i ≤ ys.length ∧ Pv D i H, ⟨ys.length, by simp, Nat.zero_le _, h0 D _ (S.new hD)⟩, ?_⟩⟩
  rintro i m H ⟨rfl, hi, pv⟩
  obtain ⟨qx, qy⟩ := hl D i H pv
  by_cases c : i < ys.length
  · refine .inr ⟨⟨xs, ys, qx, qy, by omega, c⟩, Pv D (i + 1), fun H' p' => ⟨ys.length - (i + 1), by omega, rfl, c, p'⟩, ?_⟩
    rintro v H' ⟨T, x, y, rfl, hn, rfl, f1, f2⟩
    exact hs D i x y T H _ (f1 xs qx) (f2 ys qy) pv hn rfl
  · have e : i = ys.length := by omega
    subst e
    exact .inl ⟨⟨xs, ys, qx, qy, hn, Nat.le_refl _, .inr rfl⟩, hd D H pv⟩
theorem r_slEv (h : te σ H fun x H1 => tl σ H1 fun lo H2 => gSlEv K x lo H2 Q) : tSlEv K te tl σ H Q := h
theorem sl_ev {lo : Option Int} (S : Sep l H) (hi : l[i]? = some (At p (.lst xs))) (hlo : lo = none ∨ lo = some 1) (k : ∀ D H', Sep (At D (.lst (evFrom lo xs)) :: l) H' → Q (.ref D) H') : gSlEv K (.ref p) lo H Q :=
  ⟨hlo, p, xs, rfl, SqL.of (S.at hi), fun D hD => k D _ (S.new hD)⟩
end
/-! C(e, *xs) -/
def tStarK (K : PySem.W.Frag) (te : TE) (t : TA) : TA := fun σ H Q => te σ H fun x H1 => ∃ p xs, x = V.ref p ∧ (SqT K H1 p xs ∨ SqL K H1 p xs) ∧ t σ H1 fun ys H2 => Q (xs ++ ys) H2
theorem pa_gStar {X : Cx} {K : PySem.W.Frag} {e : Expr} {es : List Expr} {te : TE} {t : TA} {p : Pos} (hK : X.K = K) (he : PE X e te) (hr : PA X es t) (hs : starEach (.Starred e p :: es) X.env = (true, eval e X.env) :: starEach es X.env := by rfl) : PA X (.Starred e p :: es) (tStarK K te t) := by
  subst hK
  exact StX.pa_star he hr hs
section
variable {σ : L2.St} {H : Hp} {K : PySem.W.Frag} {Q : List V → Hp → Prop} {l : List Asn} {p : Addr} {xs : List V} {i : Nat} {te : TE} {t : TA} {R : Prop}
theorem r_star (q : te σ H fun x H1 => ∃ p xs, x = V.ref p ∧ (SqT K H1 p xs ∨ SqL K H1 p xs) ∧ t σ H1 fun ys H2 => Q (xs ++ ys) H2) : tStarK K te t σ H Q := q
theorem c_starL {R : List V → Prop} (S : Sep l H) (hi : l[i]? = some (At p (.lst xs))) (q : R xs) : ∃ p' xs', V.ref p = V.ref p' ∧ (SqT K H p' xs' ∨ SqL K H p' xs') ∧ R xs' := ⟨p, xs, rfl, .inr (SqL.of (S.at hi)), q⟩
end
theorem pe_makeS {X : Cx} {CX : CXT} {k : Nat} {f C : Addr} {sp : Sp} {E : XK} {x : Str} {e : Expr} {es : List Expr} {t : TA} {p pos : Pos} (M : Mk X.K C f) (F : FnR X.prog X.w X.K X.mg X.base CX k f sp) (hr : Room (k + 1) X.A) (hg : Gl X x) (hm : X.mg x = some (.ref C)) (hx : Passes CX X E) (ha : PA X (e :: es) t)
    (hdb : (x == ("__debug__" : Str)) = false := by decide) (he : starEach (e :: es) X.env = (false, eval e X.env) :: starEach es X.env := by rfl) (hst : (backTo pos (starEach es X.env)).any (·.1) = true := by rfl) : PE X (.Call (.Name x p) (e :: es) [] pos) (StX.tMakeR C sp E t) := by
  constructor
  intro pins s σ H Q I h
  refine wpAny_Call_Name_kw (ld_glob I hg hm (PySem.W.callWith_S2 (h₀ := X.base) I.ok.mod.kin M.kp (thn (ha.run pos pins s σ H _ I h) fun us s1 z => ?_) he hst) hdb)
  obtain ⟨vs, H1, I1, r, q⟩ := z
  exact ⟨I1.kIn, StX.run_makeR M F hr hx I1 r q⟩
end
local macro_rules | `(tactic| walk_at "v1") => `(tactic| (first
  | with_reducible refine r_star ?_
  | with_reducible refine r_lcZM ?_
  | with_reducible refine r_slEv ?_
  | ((with_reducible refine' sl_ev (by assumption) ?hi ?hlo ?_); (case hi => walk_at "has"); (case hlo => first | exact .inl rfl | exact .inr rfl); intro _ _ _)))

/-! texts cut, great letters -/
section
open PyProof.Rows
def gUpper : V → List V → Hp → VK → Prop := fun x xs H Q => ∃ a, x = .str a ∧ xs = [] ∧ a.length ≤ 5592405 ∧ Q (.str (Txt.upper a)) H
theorem mt_gUpper {X : Cx} : MtR X "str.upper" gUpper := mt_upper
theorem m_upper {H : Hp} {Q : VK} {a : Str} (hz : a.length ≤ 3000) (q : Q (.str (Txt.upper a)) H) : gUpper (.str a) [] H Q := ⟨a, rfl, rfl, by omega, q⟩
theorem cutS_n {p q : Str} {n : Nat} (h : n = p.length) : cutS (p ++ q) none (some (n : Int)) = p := by
  subst h
  refine str_eq_of ?_
  unfold cutS
  rw [HT.sIx_nat, HT.sIx_none, cps_app, Nat.sub_zero, List.drop_zero]
  have e : min p.length (p ++ q).length = p.cps.toList.length := by
    rw [show (p ++ q).length = p.length + q.length from by simp [Str.length, ← Array.length_toList, cps_app]]
    rw [Nat.min_eq_left (Nat.le_add_right _ _)]
    simp [Str.length]
  show ((p.cps.toList ++ q.cps.toList).take _).toArray.toList = _
  rw [e, List.take_left]
theorem cutS_m {p q : Str} {n : Nat} (h : n = q.length) (h0 : 0 < n) : cutS (p ++ q) none (some (-(n : Int))) = p := by
  subst h
  refine str_eq_of ?_
  have e0 : (p ++ q).length = p.length + q.length := by simp [Str.length, ← Array.length_toList, cps_app]
  unfold cutS
  rw [HT.sIx_none, cps_app, Nat.sub_zero, List.drop_zero]
  have e : HT.sIx (p ++ q).length (p ++ q).length (some (-(q.length : Int))) = p.cps.toList.length := by
    show (if (-(q.length : Int)) < 0 then ((-(q.length : Int)) + ((p ++ q).length : Int)).toNat else _) = _
    rw [if_pos (by omega), e0]
    simp [Str.length]
    omega
  show ((p.cps.toList ++ q.cps.toList).take _).toArray.toList = _
  rw [e, List.take_left]
theorem at_m2 {l : List Nat} {c d : Nat} : atI (l ++ [c, d]) (-2) = some c := by
  unfold atI ixN
  rw [if_neg (by decide), if_pos (by simp; omega)]
  show (l ++ [c, d])[_]? = some c
  rw [show ((-2 : Int) + ((l ++ [c, d]).length : Int)).toNat = l.length by simp only [List.length_append, List.length_cons, List.length_nil]; omega]
  simp
end
local macro_rules | `(tactic| walk_at "v1") => `(tactic| ((with_reducible refine' m_upper ?hz ?_); (case hz => (first | assumption | omega))))

def top (i : Nat) : Stmt := PySem.Challenge.pw_countsheld_k17_rules_not_read.main.body.getD i (.Pass ⟨0, 0, 0, 0⟩)
abbrev s_law_source : Stmt := top 25
theorem sc_law_source : FnScope ["script"] ["script"] (defScope s_law_source) := ⟨rfl, rfl, rfl, by decide +kernel, rfl, by decide +kernel, by decide +kernel⟩
abbrev s_law_mixed : Stmt := top 26
theorem sc_law_mixed : FnScope ["cell", "count", "first"] ["cell", "count"] (defScope s_law_mixed) := ⟨rfl, rfl, rfl, by decide +kernel, rfl, by decide +kernel, by decide +kernel⟩
abbrev s_law_draw : Stmt := top 27
theorem sc_law_draw : FnScope ["source", "size", "at", "cell", "value"] ["source", "size"] (defScope s_law_draw) := ⟨rfl, rfl, rfl, by decide +kernel, rfl, by decide +kernel, by decide +kernel⟩
abbrev s_law_kind : Stmt := top 28
theorem sc_law_kind : FnScope ["source", "taken", "letters", "barred", "words", "word", "k"] ["source", "taken"] (defScope s_law_kind) := ⟨rfl, rfl, rfl, by decide +kernel, rfl, by decide +kernel, by decide +kernel⟩
abbrev s_law_kinds : Stmt := top 29
theorem sc_law_kinds : FnScope ["source", "many", "kinds", "k"] ["source", "many"] (defScope s_law_kinds) := ⟨rfl, rfl, rfl, by decide +kernel, rfl, by decide +kernel, by decide +kernel⟩
abbrev s_is_digit : Stmt := top 12
theorem sc_is_digit : FnScope ["value"] ["value"] (defScope s_is_digit) := ⟨rfl, rfl, rfl, by decide +kernel, rfl, by decide +kernel, by decide +kernel⟩
abbrev s_begins_as : Stmt := top 22
theorem sc_begins_as : FnScope ["tokens", "form", "token", "part"] ["tokens", "form"] (defScope s_begins_as) := ⟨rfl, rfl, rfl, by decide +kernel, rfl, by decide +kernel, by decide +kernel⟩
abbrev s_BadRule___init__ : Stmt := inClass (top 3) 0
theorem sc_BadRule___init__ : FnScope ["self", "what"] ["self", "what"] (defScope s_BadRule___init__) := ⟨rfl, rfl, rfl, by decide +kernel, rfl, by decide +kernel, by decide +kernel⟩
abbrev s_is_word : Stmt := top 8
theorem sc_is_word : FnScope ["value", "letter"] ["value"] (defScope s_is_word) := ⟨rfl, rfl, rfl, by decide +kernel, rfl, by decide +kernel, by decide +kernel⟩
abbrev s_words_between_signs : Stmt := top 23
theorem sc_words_between_signs : FnScope ["tokens", "words", "signs", "word", "sign"] ["tokens"] (defScope s_words_between_signs) := ⟨rfl, rfl, rfl, by decide +kernel, rfl, by decide +kernel, by decide +kernel⟩
abbrev s_is_number : Stmt := top 10
theorem sc_is_number : FnScope ["value"] ["value"] (defScope s_is_number) := ⟨rfl, rfl, rfl, by decide +kernel, rfl, by decide +kernel, by decide +kernel⟩
abbrev s_is_index : Stmt := top 11
theorem sc_is_index : FnScope ["value", "end"] ["value", "end"] (defScope s_is_index) := ⟨rfl, rfl, rfl, by decide +kernel, rfl, by decide +kernel, by decide +kernel⟩
abbrev s_is_kind : Stmt := top 9
theorem sc_is_kind : FnScope ["value"] ["value"] (defScope s_is_kind) := ⟨rfl, rfl, rfl, by decide +kernel, rfl, by decide +kernel, by decide +kernel⟩
abbrev s_check_rule : Stmt := top 20
theorem sc_check_rule : FnScope ["numbers", "kinds", "number", "at", "kind"] ["numbers", "kinds"] (defScope s_check_rule) := ⟨rfl, rfl, rfl, by decide +kernel, rfl, by decide +kernel, by decide +kernel⟩
abbrev s_Rule___init__ : Stmt := inClass (top 14) 0
theorem sc_Rule___init__ : FnScope ["self", "least", "most", "kinds"] ["self", "least", "most", "kinds"] (defScope s_Rule___init__) := ⟨rfl, rfl, rfl, by decide +kernel, rfl, by decide +kernel, by decide +kernel⟩
abbrev s_AtLeast___init__ : Stmt := inClass (top 15) 0
theorem sc_AtLeast___init__ : FnScope ["self", "least", "kinds"] ["self", "least", "kinds"] (defScope s_AtLeast___init__) := ⟨rfl, rfl, rfl, by decide +kernel, rfl, by decide +kernel, by decide +kernel⟩
abbrev s_AtMost___init__ : Stmt := inClass (top 16) 0
theorem sc_AtMost___init__ : FnScope ["self", "most", "kinds"] ["self", "most", "kinds"] (defScope s_AtMost___init__) := ⟨rfl, rfl, rfl, by decide +kernel, rfl, by decide +kernel, by decide +kernel⟩
abbrev s_Between___init__ : Stmt := inClass (top 17) 0
theorem sc_Between___init__ : FnScope ["self", "least", "most", "kinds"] ["self", "least", "most", "kinds"] (defScope s_Between___init__) := ⟨rfl, rfl, rfl, by decide +kernel, rfl, by decide +kernel, by decide +kernel⟩
abbrev s_Exactly___init__ : Stmt := inClass (top 18) 0
theorem sc_Exactly___init__ : FnScope ["self", "number", "kinds"] ["self", "number", "kinds"] (defScope s_Exactly___init__) := ⟨rfl, rfl, rfl, by decide +kernel, rfl, by decide +kernel, by decide +kernel⟩
abbrev s_read_rule : Stmt := top 19
theorem sc_read_rule : FnScope ["text", "tokens", "kinds"] ["text"] (defScope s_read_rule) := ⟨rfl, rfl, rfl, by decide +kernel, rfl, by decide +kernel, by decide +kernel⟩
abbrev s_law_forms : Stmt := top 30
theorem sc_law_forms : FnScope ["low", "high", "kinds", "names", "texts"] ["low", "high", "kinds"] (defScope s_law_forms) := ⟨rfl, rfl, rfl, by decide +kernel, rfl, by decide +kernel, by decide +kernel⟩
abbrev s_law_what : Stmt := top 31
theorem sc_law_what : FnScope ["text", "e"] ["text"] (defScope s_law_what) := ⟨rfl, rfl, rfl, by decide +kernel, rfl, by decide +kernel, by decide +kernel⟩
abbrev s_law_faulty : Stmt := top 32
theorem sc_law_faulty : FnScope ["choice", "mode", "text", "names", "rest", "digit", "head", "rows"] ["choice", "mode", "text", "names"] (defScope s_law_faulty) := ⟨rfl, rfl, rfl, by decide +kernel, rfl, by decide +kernel, by decide +kernel⟩
abbrev s_law_no_string : Stmt := top 33
theorem sc_law_no_string : FnScope ["choice"] ["choice"] (defScope s_law_no_string) := ⟨rfl, rfl, rfl, by decide +kernel, rfl, by decide +kernel, by decide +kernel⟩
abbrev s_law : Stmt := top 34
theorem sc_law : FnScope ["script", "source", "kinds", "some", "low", "high", "mode", "choice", "text", "bad", "wrong"] ["script"] (defScope s_law) := ⟨rfl, rfl, rfl, by decide +kernel, rfl, by decide +kernel, by decide +kernel⟩
structure Ad where
  f_law_source : Addr
  fd_law_source : FuncData
  f_law_mixed : Addr
  fd_law_mixed : FuncData
  f_law_draw : Addr
  fd_law_draw : FuncData
  f_law_kind : Addr
  fd_law_kind : FuncData
  f_law_kinds : Addr
  fd_law_kinds : FuncData
  f_is_digit : Addr
  fd_is_digit : FuncData
  f_begins_as : Addr
  fd_begins_as : FuncData
  f_BadRule___init__ : Addr
  fd_BadRule___init__ : FuncData
  f_is_word : Addr
  fd_is_word : FuncData
  f_words_between_signs : Addr
  fd_words_between_signs : FuncData
  f_is_number : Addr
  fd_is_number : FuncData
  f_is_index : Addr
  fd_is_index : FuncData
  f_is_kind : Addr
  fd_is_kind : FuncData
  f_check_rule : Addr
  fd_check_rule : FuncData
  f_Rule___init__ : Addr
  fd_Rule___init__ : FuncData
  f_AtLeast___init__ : Addr
  fd_AtLeast___init__ : FuncData
  f_AtMost___init__ : Addr
  fd_AtMost___init__ : FuncData
  f_Between___init__ : Addr
  fd_Between___init__ : FuncData
  f_Exactly___init__ : Addr
  fd_Exactly___init__ : FuncData
  f_read_rule : Addr
  fd_read_rule : FuncData
  f_law_forms : Addr
  fd_law_forms : FuncData
  f_law_what : Addr
  fd_law_what : FuncData
  f_law_faulty : Addr
  fd_law_faulty : FuncData
  f_law_no_string : Addr
  fd_law_no_string : FuncData
  f_law : Addr
  fd_law : FuncData
  c_Rule : Addr
  c_AtLeast : Addr
  c_AtMost : Addr
  c_Between : Addr
  c_Exactly : Addr
  c_BadRule : Addr
  c_CountsheldError : Addr
  g_BARRED : Addr
structure Txt (K : PySem.W.Frag) (mg : Str → Option Value) (A : Ad) : Prop where
  F_law_source : Fun K "_law_source" "_law_source" s_law_source A.f_law_source A.fd_law_source
  F_law_mixed : Fun K "_law_mixed" "_law_mixed" s_law_mixed A.f_law_mixed A.fd_law_mixed
  F_law_draw : Fun K "_law_draw" "_law_draw" s_law_draw A.f_law_draw A.fd_law_draw
  F_law_kind : Fun K "_law_kind" "_law_kind" s_law_kind A.f_law_kind A.fd_law_kind
  F_law_kinds : Fun K "_law_kinds" "_law_kinds" s_law_kinds A.f_law_kinds A.fd_law_kinds
  F_is_digit : Fun K "is_digit" "is_digit" s_is_digit A.f_is_digit A.fd_is_digit
  F_begins_as : Fun K "_begins_as" "_begins_as" s_begins_as A.f_begins_as A.fd_begins_as
  F_BadRule___init__ : Fun K "__init__" "BadRule.__init__" s_BadRule___init__ A.f_BadRule___init__ A.fd_BadRule___init__
  F_is_word : Fun K "is_word" "is_word" s_is_word A.f_is_word A.fd_is_word
  F_words_between_signs : Fun K "_words_between_signs" "_words_between_signs" s_words_between_signs A.f_words_between_signs A.fd_words_between_signs
  F_is_number : Fun K "is_number" "is_number" s_is_number A.f_is_number A.fd_is_number
  F_is_index : Fun K "is_index" "is_index" s_is_index A.f_is_index A.fd_is_index
  F_is_kind : Fun K "is_kind" "is_kind" s_is_kind A.f_is_kind A.fd_is_kind
  F_check_rule : Fun K "_check_rule" "_check_rule" s_check_rule A.f_check_rule A.fd_check_rule
  F_Rule___init__ : Fun K "__init__" "Rule.__init__" s_Rule___init__ A.f_Rule___init__ A.fd_Rule___init__
  F_AtLeast___init__ : Fun K "__init__" "AtLeast.__init__" s_AtLeast___init__ A.f_AtLeast___init__ A.fd_AtLeast___init__
  F_AtMost___init__ : Fun K "__init__" "AtMost.__init__" s_AtMost___init__ A.f_AtMost___init__ A.fd_AtMost___init__
  F_Between___init__ : Fun K "__init__" "Between.__init__" s_Between___init__ A.f_Between___init__ A.fd_Between___init__
  F_Exactly___init__ : Fun K "__init__" "Exactly.__init__" s_Exactly___init__ A.f_Exactly___init__ A.fd_Exactly___init__
  F_read_rule : Fun K "read_rule" "read_rule" s_read_rule A.f_read_rule A.fd_read_rule
  F_law_forms : Fun K "_law_forms" "_law_forms" s_law_forms A.f_law_forms A.fd_law_forms
  F_law_what : Fun K "_law_what" "_law_what" s_law_what A.f_law_what A.fd_law_what
  F_law_faulty : Fun K "_law_faulty" "_law_faulty" s_law_faulty A.f_law_faulty A.fd_law_faulty
  F_law_no_string : Fun K "_law_no_string" "_law_no_string" s_law_no_string A.f_law_no_string A.fd_law_no_string
  F_law : Fun K "law" "law" s_law A.f_law A.fd_law
  vm_BadRule : mg "BadRule" = some (.ref A.c_BadRule)
  ox_BadRule : OexC K A.c_BadRule
  oi_BadRule : PySem.W.findIn K (.ref A.c_BadRule) "__init__" = some (some (.ref A.f_BadRule___init__))
  ot_BadRule : PySem.W.typeIn K (.ref A.f_BadRule___init__) = some (.type "function")
  xn_BadRule_what : PySem.W.findIn K (.ref A.c_BadRule) "what" = some none
  te_BadRule_BadRule : PySem.W.exmOne K (.ref A.c_BadRule) (.ref A.c_BadRule) = some true
  xf_BadRule : XfC K A.c_BadRule
  xc_BadRule : ExcC K A.c_BadRule
  vm_CountsheldError : mg "CountsheldError" = some (.ref A.c_CountsheldError)
  kit_BadRule_CountsheldError : PySem.W.kitOne K (.ref A.c_BadRule) (.ref A.c_CountsheldError) = some true
  m_law_source : mg "_law_source" = some (.ref A.f_law_source)
  k_law_source : PySem.W.keepIn K (.ref A.f_law_source) = true
  b_law_source : Binds K A.fd_law_source ["script"] []
  m_law_mixed : mg "_law_mixed" = some (.ref A.f_law_mixed)
  k_law_mixed : PySem.W.keepIn K (.ref A.f_law_mixed) = true
  b_law_mixed : Binds K A.fd_law_mixed ["cell", "count"] []
  m_law_draw : mg "_law_draw" = some (.ref A.f_law_draw)
  k_law_draw : PySem.W.keepIn K (.ref A.f_law_draw) = true
  b_law_draw : Binds K A.fd_law_draw ["source", "size"] []
  m_law_kind : mg "_law_kind" = some (.ref A.f_law_kind)
  k_law_kind : PySem.W.keepIn K (.ref A.f_law_kind) = true
  b_law_kind : Binds K A.fd_law_kind ["source", "taken"] []
  m_law_kinds : mg "_law_kinds" = some (.ref A.f_law_kinds)
  k_law_kinds : PySem.W.keepIn K (.ref A.f_law_kinds) = true
  b_law_kinds : Binds K A.fd_law_kinds ["source", "many"] []
  m_is_digit : mg "is_digit" = some (.ref A.f_is_digit)
  k_is_digit : PySem.W.keepIn K (.ref A.f_is_digit) = true
  b_is_digit : Binds K A.fd_is_digit ["value"] []
  m_begins_as : mg "_begins_as" = some (.ref A.f_begins_as)
  k_begins_as : PySem.W.keepIn K (.ref A.f_begins_as) = true
  b_begins_as : Binds K A.fd_begins_as ["tokens", "form"] []
  b_BadRule___init__ : Binds K A.fd_BadRule___init__ ["self", "what"] []
  m_is_word : mg "is_word" = some (.ref A.f_is_word)
  k_is_word : PySem.W.keepIn K (.ref A.f_is_word) = true
  b_is_word : Binds K A.fd_is_word ["value"] []
  m_words_between_signs : mg "_words_between_signs" = some (.ref A.f_words_between_signs)
  k_words_between_signs : PySem.W.keepIn K (.ref A.f_words_between_signs) = true
  b_words_between_signs : Binds K A.fd_words_between_signs ["tokens"] []
  m_is_number : mg "is_number" = some (.ref A.f_is_number)
  k_is_number : PySem.W.keepIn K (.ref A.f_is_number) = true
  b_is_number : Binds K A.fd_is_number ["value"] []
  m_is_index : mg "is_index" = some (.ref A.f_is_index)
  k_is_index : PySem.W.keepIn K (.ref A.f_is_index) = true
  b_is_index : Binds K A.fd_is_index ["value", "end"] []
  m_is_kind : mg "is_kind" = some (.ref A.f_is_kind)
  k_is_kind : PySem.W.keepIn K (.ref A.f_is_kind) = true
  b_is_kind : Binds K A.fd_is_kind ["value"] []
  m_check_rule : mg "_check_rule" = some (.ref A.f_check_rule)
  k_check_rule : PySem.W.keepIn K (.ref A.f_check_rule) = true
  b_check_rule : Binds K A.fd_check_rule ["numbers", "kinds"] []
  b_Rule___init__ : Binds K A.fd_Rule___init__ ["self", "least", "most", "kinds"] []
  m_read_rule : mg "read_rule" = some (.ref A.f_read_rule)
  k_read_rule : PySem.W.keepIn K (.ref A.f_read_rule) = true
  b_read_rule : Binds K A.fd_read_rule ["text"] []
  m_law_forms : mg "_law_forms" = some (.ref A.f_law_forms)
  k_law_forms : PySem.W.keepIn K (.ref A.f_law_forms) = true
  b_law_forms : Binds K A.fd_law_forms ["low", "high", "kinds"] []
  m_law_what : mg "_law_what" = some (.ref A.f_law_what)
  k_law_what : PySem.W.keepIn K (.ref A.f_law_what) = true
  b_law_what : Binds K A.fd_law_what ["text"] []
  m_law_faulty : mg "_law_faulty" = some (.ref A.f_law_faulty)
  k_law_faulty : PySem.W.keepIn K (.ref A.f_law_faulty) = true
  b_law_faulty : Binds K A.fd_law_faulty ["choice", "mode", "text", "names"] []
  m_law_no_string : mg "_law_no_string" = some (.ref A.f_law_no_string)
  k_law_no_string : PySem.W.keepIn K (.ref A.f_law_no_string) = true
  b_law_no_string : Binds K A.fd_law_no_string ["choice"] []
  m_law : mg "law" = some (.ref A.f_law)
  k_law : PySem.W.keepIn K (.ref A.f_law) = true
  b_law : Binds K A.fd_law ["script"] []
  n_abs : mg "abs" = none
  n_all : mg "all" = none
  n_bool : mg "bool" = none
  n_enumerate : mg "enumerate" = none
  n_int : mg "int" = none
  n_isinstance : mg "isinstance" = none
  n_len : mg "len" = none
  n_list : mg "list" = none
  n_range : mg "range" = none
  n_str : mg "str" = none
  n_tuple : mg "tuple" = none
  n_zip : mg "zip" = none
  vm_Rule : mg "Rule" = some (.ref A.c_Rule)
  kl_Rule : Kl K A.c_Rule ["least", "most", "kinds"]
  ki_Rule : Ki K A.c_Rule
  mk_Rule : Mk K A.c_Rule A.f_Rule___init__
  r_Rule : ClX.CRead K A.c_Rule (.type "type")
  u_Rule___init__ : PySem.W.findCls K (.ref A.c_Rule) (.type "type") "__init__" = some (.val (.ref A.f_Rule___init__))
  kp_Rule___init__ : PySem.W.keepIn K (.ref A.f_Rule___init__) = true
  vm_AtLeast : mg "AtLeast" = some (.ref A.c_AtLeast)
  kl_AtLeast : Kl K A.c_AtLeast ["least", "most", "kinds"]
  ki_AtLeast : Ki K A.c_AtLeast
  mk_AtLeast : Mk K A.c_AtLeast A.f_AtLeast___init__
  r_AtLeast : ClX.CRead K A.c_AtLeast (.type "type")
  u_AtLeast___init__ : PySem.W.findCls K (.ref A.c_AtLeast) (.type "type") "__init__" = some (.val (.ref A.f_AtLeast___init__))
  kp_AtLeast___init__ : PySem.W.keepIn K (.ref A.f_AtLeast___init__) = true
  vm_AtMost : mg "AtMost" = some (.ref A.c_AtMost)
  kl_AtMost : Kl K A.c_AtMost ["least", "most", "kinds"]
  ki_AtMost : Ki K A.c_AtMost
  mk_AtMost : Mk K A.c_AtMost A.f_AtMost___init__
  r_AtMost : ClX.CRead K A.c_AtMost (.type "type")
  u_AtMost___init__ : PySem.W.findCls K (.ref A.c_AtMost) (.type "type") "__init__" = some (.val (.ref A.f_AtMost___init__))
  kp_AtMost___init__ : PySem.W.keepIn K (.ref A.f_AtMost___init__) = true
  vm_Between : mg "Between" = some (.ref A.c_Between)
  kl_Between : Kl K A.c_Between ["least", "most", "kinds"]
  ki_Between : Ki K A.c_Between
  mk_Between : Mk K A.c_Between A.f_Between___init__
  r_Between : ClX.CRead K A.c_Between (.type "type")
  u_Between___init__ : PySem.W.findCls K (.ref A.c_Between) (.type "type") "__init__" = some (.val (.ref A.f_Between___init__))
  kp_Between___init__ : PySem.W.keepIn K (.ref A.f_Between___init__) = true
  vm_Exactly : mg "Exactly" = some (.ref A.c_Exactly)
  kl_Exactly : Kl K A.c_Exactly ["least", "most", "kinds"]
  ki_Exactly : Ki K A.c_Exactly
  mk_Exactly : Mk K A.c_Exactly A.f_Exactly___init__
  r_Exactly : ClX.CRead K A.c_Exactly (.type "type")
  u_Exactly___init__ : PySem.W.findCls K (.ref A.c_Exactly) (.type "type") "__init__" = some (.val (.ref A.f_Exactly___init__))
  kp_Exactly___init__ : PySem.W.keepIn K (.ref A.f_Exactly___init__) = true
  kit_Rule_Rule : PySem.W.kitOne K (.ref A.c_Rule) (.ref A.c_Rule) = some true
  kit_Rule_AtLeast : PySem.W.kitOne K (.ref A.c_Rule) (.ref A.c_AtLeast) = some false
  kit_Rule_AtMost : PySem.W.kitOne K (.ref A.c_Rule) (.ref A.c_AtMost) = some false
  kit_Rule_Between : PySem.W.kitOne K (.ref A.c_Rule) (.ref A.c_Between) = some false
  kit_Rule_Exactly : PySem.W.kitOne K (.ref A.c_Rule) (.ref A.c_Exactly) = some false
  kit_AtLeast_Rule : PySem.W.kitOne K (.ref A.c_AtLeast) (.ref A.c_Rule) = some true
  kit_AtLeast_AtLeast : PySem.W.kitOne K (.ref A.c_AtLeast) (.ref A.c_AtLeast) = some true
  kit_AtLeast_AtMost : PySem.W.kitOne K (.ref A.c_AtLeast) (.ref A.c_AtMost) = some false
  kit_AtLeast_Between : PySem.W.kitOne K (.ref A.c_AtLeast) (.ref A.c_Between) = some false
  kit_AtLeast_Exactly : PySem.W.kitOne K (.ref A.c_AtLeast) (.ref A.c_Exactly) = some false
  kit_AtMost_Rule : PySem.W.kitOne K (.ref A.c_AtMost) (.ref A.c_Rule) = some true
  kit_AtMost_AtLeast : PySem.W.kitOne K (.ref A.c_AtMost) (.ref A.c_AtLeast) = some false
  kit_AtMost_AtMost : PySem.W.kitOne K (.ref A.c_AtMost) (.ref A.c_AtMost) = some true
  kit_AtMost_Between : PySem.W.kitOne K (.ref A.c_AtMost) (.ref A.c_Between) = some false
  kit_AtMost_Exactly : PySem.W.kitOne K (.ref A.c_AtMost) (.ref A.c_Exactly) = some false
  kit_Between_Rule : PySem.W.kitOne K (.ref A.c_Between) (.ref A.c_Rule) = some true
  kit_Between_AtLeast : PySem.W.kitOne K (.ref A.c_Between) (.ref A.c_AtLeast) = some true
  kit_Between_AtMost : PySem.W.kitOne K (.ref A.c_Between) (.ref A.c_AtMost) = some true
  kit_Between_Between : PySem.W.kitOne K (.ref A.c_Between) (.ref A.c_Between) = some true
  kit_Between_Exactly : PySem.W.kitOne K (.ref A.c_Between) (.ref A.c_Exactly) = some false
  kit_Exactly_Rule : PySem.W.kitOne K (.ref A.c_Exactly) (.ref A.c_Rule) = some true
  kit_Exactly_AtLeast : PySem.W.kitOne K (.ref A.c_Exactly) (.ref A.c_AtLeast) = some true
  kit_Exactly_AtMost : PySem.W.kitOne K (.ref A.c_Exactly) (.ref A.c_AtMost) = some true
  kit_Exactly_Between : PySem.W.kitOne K (.ref A.c_Exactly) (.ref A.c_Between) = some true
  kit_Exactly_Exactly : PySem.W.kitOne K (.ref A.c_Exactly) (.ref A.c_Exactly) = some true
  e_DIGITS : ∃ u, mg "_DIGITS" = some u ∧ RelV (.str "0123456789") u
  e_LETTERS : ∃ u, mg "_LETTERS" = some u ∧ RelV (.str "abcdefghijklmnopqrstuvwxyz") u
  e_BARRED : ∃ u, mg "_BARRED" = some u ∧ RelV (.ref A.g_BARRED) u
  t_BARRED : ∀ H : Hp, SqT K H A.g_BARRED [.str "hold", .str "look", .str "do", .str "row", .str "one", .str "all", .str "new", .str "give", .str "take", .str "join", .str "other", .str "if", .str "and", .str "or", .str "then", .str "gone"]
section
variable {P : Program} {w : World} {K : PySem.W.Frag} {mg : Str → Option Value} {base : Heap} {A : Ad}
/-! law_source -/
def sp_law_source (K : PySem.W.Frag) : Sp := fun vs H Q _ => ∃ (a : Addr) (ns : List Int) (fr : List Asn), vs = [.ref a] ∧ SqL K H a (ns.map V.int) ∧ ns.length ≤ 63 ∧ Sep fr H ∧ ∀ s H', Sep (Src s :: fr) H' → Q (.ref s) H'
theorem s_sq {l : List Asn} {H : Hp} {K : PySem.W.Frag} {Q : VK} {p : Addr} {xs : List V} {lo hi : Option Int} (hS : SqL K H p xs) (S : Sep l H) (k : ∀ d H', Sep (At d (.lst (cutV xs lo hi)) :: l) H' → Q (.ref d) H') : gSl K (.ref p) lo hi H Q := .inl ⟨p, xs, rfl, hS, fun d hd => k d _ (S.new hd)⟩
theorem cut_map {α : Type} (f : α → V) (as : List α) (lo hi : Option Int) : ∃ bs : List α, cutV (as.map f) lo hi = bs.map f ∧ bs.length ≤ as.length := by
  refine ⟨(as.drop (HT.sIx (as.map f).length 0 lo)).take (HT.sIx (as.map f).length (as.map f).length hi - HT.sIx (as.map f).length 0 lo), ?_, ?_⟩
  · unfold cutV
    rw [List.map_take, List.map_drop]
  · rw [List.length_take, List.length_drop]
    omega
theorem ok_law_source (T : Txt K mg A) : FnOk P w K mg base CX0 1 A.f_law_source A.fd_law_source ["script"] (sp_law_source K) := by
  refine T.F_law_source.ok sc_law_source (fun vs H Q E h => ?_) (fun cdv A' outer s0 H vs Q E hr h => ?_)
  · obtain ⟨c, n, fr, rfl, _⟩ := h
    rfl
  · obtain ⟨a, ns, fr, rfl, hS, hz, S, k⟩ := h
    refine ⟨_, (pss_one (ps_ret (pe_lst (pa_cons (pe_callTy (call_gList (K := K) rfl) (by rfl) T.n_list (by decide +kernel) (pa_cons (pe_slice (sl_g (K := K) rfl) (pv 0) po_none (po_some pe_int)) pa_nil)) (pa_cons pe_int (pa_cons pe_int (pa_cons pe_int pa_nil))))))), ?_⟩
    walk_at "v"
    refine s_sq hS S fun d H1 S1 => ?_
    obtain ⟨bs, e, hb⟩ := cut_map V.int ns none (some 63)
    rw [e] at S1
    walk_at "v"
    refine' c_listL (by assumption) ?hi ?_
    (case hi => walk_at "has")
    intro q H2 S2
    walk_at "v"
    refine k _ _ (src_close (L := q) (ns := bs) (a := 0) (b := 0) (c := 0) ?_ (by decide) (by decide) (by decide) ?_)
    · omega
    · rename_i p H3 S3
      exact S3.dr2
/-! law_mixed -/
def sp_law_mixed : Sp := fun vs H Q _ => ∃ c n : Int, vs = [.int c, .int n] ∧ ∀ r : Int, 0 ≤ r → Q (.int r) H
theorem c_mixed {c n : Int} {H : Hp} {Q : VK} {E : XK} (k : ∀ r : Int, 0 ≤ r → Q (.int r) H) : sp_law_mixed [.int c, .int n] H Q E := ⟨c, n, rfl, k⟩
local macro_rules | `(tactic| walk_at "v1") => `(tactic| ((with_reducible refine c_mixed ?_); intro _ _))
theorem ok_law_mixed (T : Txt K mg A) : FnOk P w K mg base CX0 1 A.f_law_mixed A.fd_law_mixed ["cell", "count"] (sp_law_mixed) := by
  refine T.F_law_mixed.ok sc_law_mixed (fun vs H Q E h => ?_) (fun cdv A' outer s0 H vs Q E hr h => ?_)
  · obtain ⟨c, n, rfl, _⟩ := h
    rfl
  · obtain ⟨c, n, rfl, k⟩ := h
    refine ⟨_, (pss_cons (ps_if (pt_cmpR (op_gEq (K := K) rfl hr.units) (pv 0) pe_int (nomark _)) (pss_one (ps_ret pe_int)) pss_nil)
      (pss_cons (ps_set (i := 2) sc_law_mixed.nd rfl (.inl rfl) (pe_op op_gMod (pe_callTy call_gInt (by rfl) T.n_int (by decide +kernel) (pa_cons (pe_op op_gAdd (pe_op op_gMul (pv 0) pe_int) (pe_op op_gMul (pv 1) pe_int)) pa_nil)) pe_int))
      (pss_one (ps_ret (pe_op op_gDiv (pe_op op_gMod (pe_callTy call_gInt (by rfl) T.n_int (by decide +kernel) (pa_cons (pe_op op_gAdd (pe_op op_gAdd (pe_op op_gMul (pv 2) pe_int) (pe_op op_gMul (pe_op op_gDiv (pv 2) pe_int) (pv 1))) pe_int) pa_nil)) pe_int) pe_int))))), ?_⟩
    walk_at "v"
    refine r_ifD (fun e => ?_) (fun e => ?_)
    · walk_at "v"
      exact k 0 (by decide)
    · walk_at "v"
      refine k _ ?_
      omega
/-! law_draw -/
local macro_rules | `(tactic| walk_at "srcE") => `(tactic| (first | omega | exact Int.ediv_nonneg (by omega) (by omega)))
def sp_law_draw : Sp := fun vs H Q _ => ∃ (s : Addr) (n : Int) (fr : List Asn), vs = [.ref s, .int n] ∧ 0 < n ∧ n < 10 ^ 40 ∧ Sep (Src s :: fr) H ∧ ∀ (r : Int) (H' : Hp), 0 ≤ r → r < n → Sep (Src s :: fr) H' → Q (.int r) H'
theorem c_draw {l : List Asn} {H : Hp} {i : Nat} {s : Addr} {n : Int} {Q : VK} {E : XK} (S : Sep l H) (e : l[i]? = some (Src s)) (h0 : 0 < n) (h1 : n < 10 ^ 40) (k : ∀ (r : Int) (H' : Hp), 0 ≤ r → r < n → Sep l H' → Q (.int r) H') : sp_law_draw [.ref s, .int n] H Q E :=
  ⟨s, n, _, rfl, h0, h1, S.pick e, fun r H' a b S' => k r H' a b (Sep.backS e S')⟩
theorem ok_law_draw (T : Txt K mg A) : FnOk P w K mg base CX0 2 A.f_law_draw A.fd_law_draw ["source", "size"] (sp_law_draw) := by
  refine T.F_law_draw.ok sc_law_draw (fun vs H Q E h => ?_) (fun cdv A' outer s0 H vs Q E hr h => ?_)
  · obtain ⟨c, n, fr, rfl, _⟩ := h
    rfl
  · obtain ⟨s, n, fr, rfl, n0, n1, S, k⟩ := h
    obtain ⟨L, ns, a, b, c, hz, a0, b0, c0, S⟩ := src_open S
    refine ⟨_, (pss_cons (ps_asg (pe_op op_gAdd (pe_ix (ix_g (K := K) rfl) (pv 0) pe_int (fun _ _ => rfl)) pe_int) (pg_sub (pv 0) pe_int set_list))
      (pss_cons (ps_if (PW.pt (pw_and (pt_cmpR (op_gEq (K := K) rfl hr.units) (pe_ix (ix_g (K := K) rfl) (pv 0) pe_int (fun _ _ => rfl)) pe_int (nomark _)) (pw_and1 (pt_cmpR op_gGt (pe_callB (call_gLen (K := K) rfl) (by rfl) T.n_len (by decide +kernel) (pa_cons (pe_ix (ix_g (K := K) rfl) (pv 0) pe_int (fun _ _ => rfl)) pa_nil)) pe_int (nomark _))))) (pss_cons (ps_set (i := 2) sc_law_draw.nd rfl (.inl rfl) (pe_ix (ix_g (K := K) rfl) (pv 0) pe_int (fun _ _ => rfl)))
      (pss_cons (ps_set (i := 3) sc_law_draw.nd rfl (.inl rfl) (pe_ix (ix_g (K := K) rfl) (pe_ix (ix_g (K := K) rfl) (pv 0) pe_int (fun _ _ => rfl)) (pe_op op_gMod (pe_callTy call_gInt (by rfl) T.n_int (by decide +kernel) (pa_cons (pv 2) pa_nil)) (pe_callB (call_gLen (K := K) rfl) (by rfl) T.n_len (by decide +kernel) (pa_cons (pe_ix (ix_g (K := K) rfl) (pv 0) pe_int (fun _ _ => rfl)) pa_nil))) (fun _ _ => rfl)))
      (pss_cons (ps_asg (pe_op op_gAdd (pv 2) pe_int) (pg_sub (pv 0) pe_int set_list))
      (pss_one (ps_if (PW.pt (pw_and (pt_cmpR op_gLt (pv 2) (pe_callB (call_gLen (K := K) rfl) (by rfl) T.n_len (by decide +kernel) (pa_cons (pe_ix (ix_g (K := K) rfl) (pv 0) pe_int (fun _ _ => rfl)) pa_nil)) (nomark _)) (pw_and1 (pt_cmpR op_gGe (pe_callB call_gAbs (by rfl) T.n_abs (by decide +kernel) (pa_cons (pv 3) pa_nil)) (pe_op op_gPow pe_int pe_int) (nomark _))))) (pss_one (ps_asg (pe_callB call_gAbs (by rfl) T.n_abs (by decide +kernel) (pa_cons (pv 3) pa_nil)) (pg_sub (pv 0) pe_int set_list))) (pss_one (ps_ret (pe_op op_gMod (pe_callTy call_gInt (by rfl) T.n_int (by decide +kernel) (pa_cons (pe_call (ok_law_mixed T) (hr.mono (by decide)) rfl T.m_law_mixed T.k_law_mixed T.b_law_mixed .nil pass0 (pa_cons (pv 3) (pa_cons (pe_ix (ix_g (K := K) rfl) (pv 0) pe_int (fun _ _ => rfl)) pa_nil))) pa_nil)) (pv 1))))))))) pss_nil)
      (pss_cons (ps_set (i := 4) sc_law_draw.nd rfl (.inl rfl) (pe_op op_gMod (pe_callTy call_gInt (by rfl) T.n_int (by decide +kernel) (pa_cons (pe_ix (ix_g (K := K) rfl) (pv 0) pe_int (fun _ _ => rfl)) pa_nil)) (pv 1)))
      (pss_cons (ps_asg (pe_op op_gDiv (pe_ix (ix_g (K := K) rfl) (pv 0) pe_int (fun _ _ => rfl)) (pv 1)) (pg_sub (pv 0) pe_int set_list))
      (pss_one (ps_ret (pv 4))))))), ?_⟩
    walk_at "v"
    rename_i H1 S1
    refine r_ifD (fun e0 => ?_) (fun e0 => ?_)
    · walk_at "v"
      refine r_ifD (fun e1 => ?_) (fun e1 => ?_)
      · walk_at "v"
        refine r_ifD (fun e2 => ?_) (fun e2 => ?_)
        · walk_at "v"
          refine r_ifD (fun e3 => ?_) (fun e3 => ?_)
          · walk_at "v"
            refine k _ _ (by assumption) (by assumption) (src_close hz ?_ ?_ ?_ (by assumption)) <;> walk_at "srcE"
          · walk_at "v"
            refine k _ _ (by assumption) (by assumption) (src_close hz ?_ ?_ ?_ (by assumption)) <;> walk_at "srcE"
        · walk_at "v"
          refine k _ _ (by assumption) (by assumption) (src_close hz ?_ ?_ ?_ (by assumption)) <;> walk_at "srcE"
      · walk_at "v"
        refine k _ _ (by assumption) (by assumption) (src_close hz ?_ ?_ ?_ (by assumption)) <;> walk_at "srcE"
    · walk_at "v"
      refine k _ _ (by assumption) (by assumption) (src_close hz ?_ ?_ ?_ (by assumption)) <;> walk_at "srcE"
local macro_rules | `(tactic| walk_at "v1") => `(tactic| ((with_reducible refine' c_draw (by assumption) ?hi ?h0 ?h1 ?_); (case hi => walk_at "has"); (case h0 => (first | decide | omega | assumption)); (case h1 => (first | decide | omega | assumption)); intro _ _ _ _ _))
/-! law_kind -/
def sp_law_kind : Sp := fun vs H Q _ => ∃ (s t : Addr) (ws : List Str) (fr : List Asn), vs = [.ref s, .ref t] ∧ ws.length ≤ 6 ∧ Sep (Src s :: At t (.lst (ws.map V.str)) :: fr) H ∧ ∀ (w : Str) (H' : Hp), Kd w → w ∉ ws → Sep (Src s :: At t (.lst (ws.map V.str)) :: fr) H' → Q (.str w) H'
theorem c_kind {l : List Asn} {H : Hp} {i j : Nat} {s t : Addr} {ws : List Str} {Q : VK} {E : XK} (S : Sep l H) (e : l[i]? = some (Src s)) (e2 : (l.eraseIdx i)[j]? = some (At t (.lst (ws.map V.str)))) (hz : ws.length ≤ 6) (k : ∀ (w : Str) (H' : Hp), Kd w → w ∉ ws → Sep l H' → Q (.str w) H') : sp_law_kind [.ref s, .ref t] H Q E :=
  ⟨s, t, ws, _, rfl, hz, Sep.fr1' e2 (S.pick e), fun w H' a b S' => k w H' a b (Sep.backS e (Sep.bk1' e2 S'))⟩
theorem ok_law_kind (T : Txt K mg A) : FnOk P w K mg base CX0 3 A.f_law_kind A.fd_law_kind ["source", "taken"] (sp_law_kind) := by
  refine T.F_law_kind.ok sc_law_kind (fun vs H Q E h => ?_) (fun cdv A' outer s0 H vs Q E hr h => ?_)
  · obtain ⟨s, t, ws, fr, rfl, _⟩ := h
    rfl
  · obtain ⟨s, t, ws, fr, rfl, hz, S, k⟩ := h
    refine ⟨_, (pss_cons (ps_set (i := 2) sc_law_kind.nd rfl (.inl rfl) pe_str)
      (pss_cons (ps_set (i := 3) sc_law_kind.nd rfl (.inl rfl) (pe_lst (pa_cons pe_str (pa_cons pe_str (pa_cons pe_str (pa_cons pe_str (pa_cons pe_str (pa_cons pe_str (pa_cons pe_str (pa_cons pe_str (pa_cons pe_str (pa_cons pe_str (pa_cons pe_str (pa_cons pe_str (pa_cons pe_str (pa_cons pe_str pa_nil))))))))))))))))
      (pss_cons (ps_set (i := 3) sc_law_kind.nd rfl (.inl rfl) (pe_op op_gAdd (pv 3) (pe_lst (pa_cons pe_str (pa_cons pe_str pa_nil)))))
      (pss_cons (ps_set (i := 4) sc_law_kind.nd rfl (.inl rfl) (pe_lst (pa_cons pe_str (pa_cons pe_str (pa_cons pe_str (pa_cons pe_str (pa_cons pe_str (pa_cons pe_str (pa_cons pe_str (pa_cons pe_str (pa_cons pe_str (pa_cons pe_str (pa_cons pe_str (pa_cons pe_str (pa_cons pe_str pa_nil)))))))))))))))
      (pss_cons (ps_set (i := 5) sc_law_kind.nd rfl (.inl rfl) pe_str)
      (pss_cut (ps_for PassesOwn.never rfl (pi_range1 (by rfl) T.n_range (pa_cons (pe_op op_gAdd pe_int (pe_call (ok_law_draw T) (hr.mono (by decide)) rfl T.m_law_draw T.k_law_draw T.b_law_draw .nil pass0 (pa_cons (pv 0) (pa_cons pe_int pa_nil)))) pa_nil)) (pg_name (i := 6) sc_law_kind.nd rfl (.inl rfl)) (pss_one (ps_set (i := 5) sc_law_kind.nd rfl (.inl rfl) (pe_op op_gAdd (pv 5) (pe_ix (ix_g (K := K) rfl) (pv 2) (pe_call (ok_law_draw T) (hr.mono (by decide)) rfl T.m_law_draw T.k_law_draw T.b_law_draw .nil pass0 (pa_cons (pv 0) (pa_cons pe_int pa_nil))) (fun _ _ => rfl))))))
      (pss_cut (ps_if (pt_cmpR (op_gEq (K := K) rfl hr.units) (pe_call (ok_law_draw T) (hr.mono (by decide)) rfl T.m_law_draw T.k_law_draw T.b_law_draw .nil pass0 (pa_cons (pv 0) (pa_cons pe_int pa_nil))) pe_int (nomark _)) (pss_one (ps_set (i := 5) sc_law_kind.nd rfl (.inl rfl) (pe_ix (ix_g (K := K) rfl) (pv 4) (pe_call (ok_law_draw T) (hr.mono (by decide)) rfl T.m_law_draw T.k_law_draw T.b_law_draw .nil pass0 (pa_cons (pv 0) (pa_cons pe_int pa_nil))) (fun _ _ => rfl)))) pss_nil)
      (pss_cons (ps_for PassesOwn.never rfl (pi_range1 (by rfl) T.n_range (pa_cons pe_int pa_nil)) (pg_name (i := 6) sc_law_kind.nd rfl (.inl rfl)) (pss_one (ps_if (PW.pt (pw_or (pt_cmpR (op_gIn (K := K) rfl) (pv 5) (pv 1) (by rfl)) (pw_or1 (pt_cmpR (op_gIn (K := K) rfl) (pv 5) (pv 3) (by rfl))))) (pss_one (ps_set (i := 5) sc_law_kind.nd rfl (.inl rfl) (pe_op op_gAdd (pe_slice (sl_g (K := K) rfl) (pv 5) po_none (po_some (pe_un un_gNeg pe_int))) (pe_ix (ix_g (K := K) rfl) (pv 2) (pe_op op_gMod (pe_op op_gAdd (pe_gBm (K := K) rfl PySem.F.plainAttrs_str PySem.F.slot_str_index PySem.F.type_str_index mt_gSIndex (pv 2) (pa_cons (pe_ix (ix_g (K := K) rfl) (pv 5) (pe_un un_gNeg pe_int) (fun _ _ => rfl)) pa_nil)) pe_int) pe_int) (fun _ _ => rfl))))) pss_nil)))
      (pss_one (ps_ret (pv 5))))))))))), ?_⟩
    walk_at "v"
    refine' o_cat (by assumption) ?hi ?hj ?hz ?_
    (case hi => exact hasS has0)
    (case hj => exact has0)
    (case hz => decide)
    intro B H1 S1
    have S1' : Sep (Src s :: At t (.lst (ws.map V.str)) :: At B (.lst (barredL.map V.str)) :: fr) H1 := (S1.reord [3, 3, 0]).dr3.dr3
    clear S1
    walk_at "v"
    rename_i W H2 S2
    refine r_cut (fun σ H => ∃ (w : Str) (b : Option V), σ = [some (.ref s), some (.ref t), some (.str abcS), some (.ref B), some (.ref W), some (.str w), b] ∧ Wd w ∧ Sep (At W (.lst (wordsL.map V.str)) :: Src s :: At t (.lst (ws.map V.str)) :: At B (.lst (barredL.map V.str)) :: fr) H) ?_ ?_
    · walk_at "v"
      rename_i r H3 r0 r8 S3
      refine forR (by omega) (by omega) (fun i σ H => ∃ (w : Str) (b : Option V), σ = [some (.ref s), some (.ref t), some (.str abcS), some (.ref B), some (.ref W), some (.str w), b] ∧ w.length = i ∧ (∀ c ∈ w.cps.toList, c ∈ abc) ∧ Sep (At W (.lst (wordsL.map V.str)) :: Src s :: At t (.lst (ws.map V.str)) :: At B (.lst (barredL.map V.str)) :: fr) H) ⟨_, _, rfl, rfl, fun c hc => (nomatch hc), S3⟩ ?_ ?_
      · rintro i σ H4 hi ⟨w, b, rfl, hl, hc, S4⟩
        walk_at "v"
        rename_i r' H5 r0' r8' S5
        refine x_strI (by decide +kernel) r0' (by have e := abc_len; unfold abc at e; unfold abcS; omega) fun c hc' => ?_
        refine o_addS (Nat.le_trans (show w.length + 1 ≤ 1000 by omega) (by decide)) ?_
        walk_at "v"
        refine ⟨w ++ ⟨#[c]⟩, _, rfl, by rw [str_len_app, hl]; rfl, fun c' hm => ?_, S5⟩
        rw [str_app] at hm
        rcases List.mem_append.1 hm with hm | hm
        · exact hc c' hm
        · have e : c' = c := List.mem_singleton.1 hm
          rw [e]; exact hc'
      · rintro σ H4 ⟨w, b, rfl, hl, hc, S4⟩
        walk_at "v"
        exact ⟨w, b, rfl, ⟨by omega, by omega, hc⟩, S4⟩
    rintro σ H3 ⟨w, b, rfl, hw, S3⟩
    refine r_cut (fun σ H => ∃ (w : Str) (b : Option V), σ = [some (.ref s), some (.ref t), some (.str abcS), some (.ref B), some (.ref W), some (.str w), b] ∧ Wd w ∧ Sep (Src s :: At t (.lst (ws.map V.str)) :: At B (.lst (barredL.map V.str)) :: fr) H) ?_ ?_
    · walk_at "v"
      rename_i r H4 r0 r8 S4
      refine r_ifD (fun e0 => ?_) (fun e0 => ?_)
      · walk_at "v"
        exact ⟨_, b, rfl, wordsL_wd _ (List.mem_of_getElem? (by assumption)), Sep.tail (by assumption)⟩
      · walk_at "v"
        exact ⟨w, b, rfl, hw, S4.tail⟩
    rintro σ H4 ⟨w, b, rfl, hw, S4⟩
    refine r_forR1 ?_
    walk_at "v"
    obtain ⟨p, j0, ew, hj0, hp7, hpc⟩ := word_split hw
    refine forR (by omega) (by omega) (fun i σ H => ∃ (j : Nat) (b : Option V), σ = [some (.ref s), some (.ref t), some (.str abcS), some (.ref B), some (.ref W), some (.str (p ++ sg j)), b] ∧ j < 26 ∧ ((p ++ sg j ∉ ws ∧ p ++ sg j ∉ barredL) ∨ (j = (j0 + i) % 26 ∧ ∀ k, k < i → p ++ sg ((j0 + k) % 26) ∈ ws ++ barredL)) ∧ Sep (Src s :: At t (.lst (ws.map V.str)) :: At B (.lst (barredL.map V.str)) :: fr) H) ?_ ?_ ?_
    · refine ⟨j0, b, by rw [ew], hj0, .inr ⟨(Nat.mod_eq_of_lt hj0).symm, fun k hk => absurd hk (Nat.not_lt_zero _)⟩, S4⟩
    · rintro i σ H5 hi ⟨j, b, rfl, hj, hor, S5⟩
      have hlen : (p ++ sg j).length ≤ 1000 := by have := (word_join hj hp7 hpc).2.1; omega
      have fin : p ++ sg j ∈ ws ++ barredL → ∃ (j' : Nat) (b : Option V), [some (V.ref s), some (.ref t), some (.str abcS), some (.ref B), some (.ref W), some (.str (p ++ sg ((j + 1) % 26))), some (.int (i : Int))] = [some (.ref s), some (.ref t), some (.str abcS), some (.ref B), some (.ref W), some (.str (p ++ sg j')), b] ∧ j' < 26 ∧ ((p ++ sg j' ∉ ws ∧ p ++ sg j' ∉ barredL) ∨ (j' = (j0 + (i + 1)) % 26 ∧ ∀ k, k < i + 1 → p ++ sg ((j0 + k) % 26) ∈ ws ++ barredL)) ∧ Sep (Src s :: At t (.lst (ws.map V.str)) :: At B (.lst (barredL.map V.str)) :: fr) H5 := fun hb => by
        rcases hor with ⟨h1, h2⟩ | ⟨h1, h2⟩
        · exact ((List.mem_append.1 hb).elim h1 h2).elim
        · refine ⟨_, _, rfl, Nat.mod_lt _ (by decide), .inr ⟨by omega, fun k hk => ?_⟩, S5⟩
          by_cases e : k < i
          · exact h2 k e
          · have : k = i := by omega
            rw [this, ← h1]; exact hb
      walk_at "v"
      refine r_ifD (fun e0 => ?_) (fun e0 => ?_)
      · walk_at "v"
        refine s_str (Nat.le_trans hlen (by decide)) ?_
        rw [cut_last]
        walk_at "v"
        refine m_tyS ?_
        walk_at "v"
        refine x_str (Nat.le_trans hlen (by decide)) last_at ?_
        walk_at "v"
        refine m_sindex hj ?_
        walk_at "v"
        refine x_str (by decide +kernel) (abcS_at (m := (j + 1) % 26) (by omega) (Nat.mod_lt _ (by decide))) ?_
        refine o_addS (Nat.le_trans (show p.length + 1 ≤ 1000 by omega) (by decide)) ?_
        walk_at "v"
        exact fin (List.mem_append.2 (.inl e0))
      · walk_at "v"
        refine r_ifD (fun e1 => ?_) (fun e1 => ?_)
        · walk_at "v"
          refine s_str (Nat.le_trans hlen (by decide)) ?_
          rw [cut_last]
          walk_at "v"
          refine m_tyS ?_
          walk_at "v"
          refine x_str (Nat.le_trans hlen (by decide)) last_at ?_
          walk_at "v"
          refine m_sindex hj ?_
          walk_at "v"
          refine x_str (by decide +kernel) (abcS_at (m := (j + 1) % 26) (by omega) (Nat.mod_lt _ (by decide))) ?_
          refine o_addS (Nat.le_trans (show p.length + 1 ≤ 1000 by omega) (by decide)) ?_
          walk_at "v"
          exact fin (List.mem_append.2 (.inr e1))
        · walk_at "v"
          exact ⟨j, _, rfl, hj, .inl ⟨e0, e1⟩, S5⟩
    · rintro σ H5 ⟨j, b, rfl, hj, hor, S5⟩
      walk_at "v"
      have hk : Kd (p ++ sg j) ∧ p ++ sg j ∉ ws := by
        rcases hor with ⟨h1, h2⟩ | ⟨_, h⟩
        · exact ⟨⟨word_join hj hp7 hpc, h2⟩, h1⟩
        · exact (free_one (m := ws ++ barredL) (by rw [List.length_append]; have : barredL.length = 16 := rfl; omega) h).elim
      exact k _ _ hk.1 hk.2 S5.dr2
local macro_rules | `(tactic| walk_at "v1") => `(tactic| ((with_reducible refine' c_kind (by assumption) ?hi ?hj ?hz ?_); (case hi => walk_at "has"); (case hj => walk_at "has"); (case hz => (first | decide | omega | assumption)); intro _ _ _ _ _))
/-! law_kinds -/
def sp_law_kinds : Sp := fun vs H Q _ => ∃ (s : Addr) (m : Int) (fr : List Asn), vs = [.ref s, .int m] ∧ 0 ≤ m ∧ m ≤ 6 ∧ Sep (Src s :: fr) H ∧ ∀ (d : Addr) (ws : List Str) (H' : Hp), ((ws.length : Nat) : Int) = m → ws.Nodup → (∀ w ∈ ws, Kd w) → Sep (At d (.lst (ws.map V.str)) :: Src s :: fr) H' → Q (.ref d) H'
theorem c_kinds {l : List Asn} {H : Hp} {i : Nat} {s : Addr} {m : Int} {Q : VK} {E : XK} (S : Sep l H) (e : l[i]? = some (Src s)) (h0 : 0 ≤ m) (h1 : m ≤ 6) (k : ∀ (d : Addr) (ws : List Str) (H' : Hp), ((ws.length : Nat) : Int) = m → ws.Nodup → (∀ w ∈ ws, Kd w) → Sep (At d (.lst (ws.map V.str)) :: l) H' → Q (.ref d) H') : sp_law_kinds [.ref s, .int m] H Q E :=
  ⟨s, m, _, rfl, h0, h1, S.pick e, fun d ws H' a b c S' => k d ws H' a b c (Sep.backS (i := i + 1) (l := At d (.lst (ws.map V.str)) :: _) e S'.fr1)⟩
theorem ok_law_kinds (T : Txt K mg A) : FnOk P w K mg base CX0 4 A.f_law_kinds A.fd_law_kinds ["source", "many"] (sp_law_kinds) := by
  refine T.F_law_kinds.ok sc_law_kinds (fun vs H Q E h => ?_) (fun cdv A' outer s0 H vs Q E hr h => ?_)
  · obtain ⟨s, m, fr, rfl, _⟩ := h
    rfl
  · obtain ⟨s, m, fr, rfl, m0, m1, S, k⟩ := h
    refine ⟨_, (pss_cons (ps_set (i := 2) sc_law_kinds.nd rfl (.inl rfl) (pe_lst pa_nil))
      (pss_cons (ps_for PassesOwn.never rfl (pi_range1 (by rfl) T.n_range (pa_cons (pv 1) pa_nil)) (pg_name (i := 3) sc_law_kinds.nd rfl (.inl rfl)) (pss_one (ps_expr (pe_gBm (K := K) rfl PySem.F.plainAttrs_list PySem.F.slot_list_append PySem.F.type_list_append mt_append (pv 2) (pa_cons (pe_call (ok_law_kind T) (hr.mono (by decide)) rfl T.m_law_kind T.k_law_kind T.b_law_kind .nil pass0 (pa_cons (pv 0) (pa_cons (pv 2) pa_nil))) pa_nil)))))
      (pss_one (ps_ret (pv 2))))), ?_⟩
    walk_at "v"
    rename_i D H1 S1
    refine forR (by omega) (by omega) (fun i σ H => ∃ (ws : List Str) (b : Option V), σ = [some (.ref s), some (.int m), some (.ref D), b] ∧ ws.length = i ∧ ws.Nodup ∧ (∀ w ∈ ws, Kd w) ∧ Sep (At D (.lst (ws.map V.str)) :: Src s :: fr) H) ⟨[], _, rfl, rfl, List.nodup_nil, fun w hw => (nomatch hw), S1⟩ ?_ ?_
    · rintro i σ H2 hi ⟨ws, b, rfl, hl, hn, hk, S2⟩
      walk_at "v"
      rename_i w H3 hw hni S3
      refine m_append S3 has0 (by rw [List.length_map]; omega) fun H4 S4 => ?_
      refine ⟨ws ++ [w], _, rfl, by rw [List.length_append, hl]; rfl, List.nodup_append.2 ⟨hn, by simp, fun a ha b hb z => hni (by rw [List.mem_singleton.1 hb] at z; exact z ▸ ha)⟩, fun x hx => ?_, ?_⟩
      · rcases List.mem_append.1 hx with hx | hx
        · exact hk x hx
        · rw [List.mem_singleton.1 hx]; exact hw
      · rw [List.map_append]
        exact S4
    · rintro σ H2 ⟨ws, b, rfl, hl, hn, hk, S2⟩
      walk_at "v"
      exact k D ws _ (by omega) hn hk S2
local macro_rules | `(tactic| walk_at "v1") => `(tactic| ((with_reducible refine' c_kinds (by assumption) ?hi ?h0 ?h1 ?_); (case hi => walk_at "has"); (case h0 => (first | decide | omega)); (case h1 => (first | decide | omega)); intro _ _ _ _ _ _ _))
/-! is_digit -/
/-- one of the ten digits -/
def Dg (w : Str) : Prop := w.length = 1 ∧ ∀ c ∈ w.cps.toList, 48 ≤ c ∧ c ≤ 57
instance (w : Str) : Decidable (Dg w) := inferInstanceAs (Decidable (_ ∧ _))
theorem one_sign {w : Str} (h : w.length = 1) : ∃ c, w = ⟨#[c]⟩ := by
  obtain ⟨⟨l⟩⟩ := w
  match l, h with
  | [c], _ => exact ⟨c, rfl⟩
theorem dg_mem {c : Nat} : c ∈ ("0123456789" : Str).cps.toList ↔ 48 ≤ c ∧ c ≤ 57 := by
  have e : ("0123456789" : Str).cps.toList = [48, 49, 50, 51, 52, 53, 54, 55, 56, 57] := by decide +kernel
  rw [e]
  simp only [List.mem_cons, List.not_mem_nil, or_false]
  omega
def sp_is_digit (K : PySem.W.Frag) : Sp := fun vs H Q _ => ∃ w : Str, vs = [.str w] ∧ w.length ≤ 3000 ∧ Q (.bl (decide (Dg w))) H
theorem ok_is_digit (T : Txt K mg A) : FnOk P w K mg base CX0 1 A.f_is_digit A.fd_is_digit ["value"] (sp_is_digit K) := by
  refine T.F_is_digit.ok sc_is_digit (fun vs H Q E h => ?_) (fun cdv A' outer s0 H vs Q E hr h => ?_)
  · obtain ⟨w, rfl, _⟩ := h
    rfl
  · obtain ⟨w, rfl, hz, q⟩ := h
    refine ⟨_, (pss_one (ps_ret (pe_and (pe_callB (call_gIsi (K := K) rfl) (by rfl) T.n_isinstance (by decide +kernel) (pa_cons (pv 0) (pa_cons (pe_bltn (v := .ty "str") (by rfl) T.n_str (by decide +kernel) rfl) pa_nil))) (pe_and (pe_cmpR (op_gEq (K := K) rfl hr.units) (pe_callB (call_gLen (K := K) rfl) (by rfl) T.n_len (by decide +kernel) (pa_cons (pv 0) pa_nil)) pe_int (nomark _)) (pe_one (pe_cmpR (op_gIn (K := K) rfl) (pv 0) (pe_globE rfl T.e_DIGITS) (by rfl))))))), ?_⟩
    walk_at "v"
    refine c_lenS (Nat.le_trans hz (by decide)) ?_
    walk_at "v"
    refine r_ifD (fun e0 => ?_) (fun e0 => ?_)
    · have e1 : w.length = 1 := by omega
      obtain ⟨c, rfl⟩ := one_sign e1
      walk_at "v"
      rw [show decide (c ∈ ("0123456789" : Str).cps.toList) = decide (Dg ⟨#[c]⟩) from decide_eq_decide.2 (dg_mem.trans ⟨fun z => ⟨rfl, fun d hd => by rw [List.mem_singleton.1 hd]; exact z⟩, fun z => z.2 c List.mem_cons_self⟩)]
      exact q
    · rw [decide_eq_false (fun z : Dg w => e0 (by rw [z.1]; rfl))] at q
      exact q
theorem c_is_digit {K : PySem.W.Frag} {H : Hp} {w : Str} {Q : VK} {E : XK} (hz : w.length ≤ 3000) (q : Q (.bl (decide (Dg w))) H) : sp_is_digit K [.str w] H Q E := ⟨w, rfl, hz, q⟩
/-! begins_as -/
/-- the texts begin as the form says -/
def bgn1 (t f : Str) : Bool := if f = "#" then decide (Dg t) else decide (t = f)
def bgn : List Str → List Str → Bool
  | _, [] => true
  | [], _ :: _ => false
  | t :: ts, f :: fs => bgn1 t f && bgn ts fs
def bgl : List Str → List Str → List Bool
  | _, [] => []
  | [], _ :: _ => []
  | t :: ts, f :: fs => bgn1 t f :: bgl ts fs
theorem bgl_all : ∀ {fs ts : List Str}, fs.length ≤ ts.length → (bgl ts fs).all id = bgn ts fs
  | [], ts, _ => by cases ts <;> rfl
  | f :: fs, [], h => by simp at h
  | f :: fs, t :: ts, h => by
    show (bgn1 t f && (bgl ts fs).all id) = (bgn1 t f && bgn ts fs)
    rw [bgl_all (by simpa using h)]
theorem bgl_len : ∀ {fs ts : List Str}, fs.length ≤ ts.length → (bgl ts fs).length = fs.length
  | [], ts, _ => by cases ts <;> rfl
  | f :: fs, [], h => by simp at h
  | f :: fs, t :: ts, h => congrArg (· + 1) (bgl_len (by simpa using h))
theorem bgn_short : ∀ {fs ts : List Str}, ts.length < fs.length → bgn ts fs = false
  | [], ts, h => by simp at h
  | f :: fs, [], _ => rfl
  | f :: fs, t :: ts, h => by
    show (bgn1 t f && bgn ts fs) = false
    rw [bgn_short (by simpa using h), Bool.and_false]
theorem bgl_get : ∀ {fs ts : List Str} {i : Nat} {t f : Str}, ts[i]? = some t → fs[i]? = some f → (bgl ts fs)[i]? = some (bgn1 t f)
  | f :: fs, t :: ts, 0, _, _, h1, h2 => by cases h1; cases h2; rfl
  | f :: fs, t :: ts, i + 1, _, _, h1, h2 => bgl_get (fs := fs) (ts := ts) (i := i) h1 h2
def sp_begins_as (K : PySem.W.Frag) : Sp := fun vs H Q _ => ∃ (p q : Addr) (ts fs : List Str) (i j : Nat) (fr : List Asn), vs = [.ref p, .ref q] ∧ fr[i]? = some (At p (.lst (ts.map V.str))) ∧ fr[j]? = some (Tp q (fs.map V.str)) ∧
  (∀ t ∈ ts, t.length ≤ 3000) ∧ ts.length ≤ 3001 ∧ (∀ f ∈ fs, f.length ≤ 100) ∧ fs.length ≤ 100 ∧ Sep fr H ∧ ∀ H', Sep fr H' → Q (.bl (bgn ts fs)) H'
theorem ok_begins_as (T : Txt K mg A) : FnOk P w K mg base CX0 2 A.f_begins_as A.fd_begins_as ["tokens", "form"] (sp_begins_as K) := by
  refine T.F_begins_as.ok sc_begins_as (fun vs H Q E h => ?_) (fun cdv A' outer s0 H vs Q E hr h => ?_)
  · obtain ⟨p, q, ts, fs, i, j, fr, rfl, _⟩ := h
    rfl
  · obtain ⟨p, q, ts, fs, i0, j0, fr, rfl, hi, hj, h1, h2, h3, h4, S, k⟩ := h
    have l1 : (ts.map V.str).length = ts.length := List.length_map _
    have l2 : (fs.map V.str).length = fs.length := List.length_map _
    refine ⟨_, (pss_cons (ps_if (pt_cmpR op_gLt (pe_callB (call_gLen (K := K) rfl) (by rfl) T.n_len (by decide +kernel) (pa_cons (pv 0) pa_nil)) (pe_callB (call_gLen (K := K) rfl) (by rfl) T.n_len (by decide +kernel) (pa_cons (pv 1) pa_nil)) (nomark _)) (pss_one (ps_ret pe_bl)) pss_nil)
      (pss_one (ps_ret (pe_callB (call_gAll (K := K) rfl rfl) (by rfl) T.n_all (by decide +kernel) (pa_cons (pe_lc (own := [("token", 2), ("part", 3)]) (g := (gTup K 2 (gCons (gName 2) (gCons (gName 3) gNil)))) rfl sc_begins_as.nd (pi_zipM (K := K) rfl (by rfl) T.n_zip (pa_cons (pv 0) (pa_cons (pv 1) pa_nil))) (blkOk_by (N := ["tokens", "form", "token", "part"]) (sc := defScope s_begins_as) (by decide +kernel)) (fun _ _ _ _ _ => (pg_gTup (K := K) rfl rfl (pgs_cons (pg_name (i := 2) sc_begins_as.nd rfl (.inl rfl)) (pgs_cons (pg_name (i := 3) sc_begins_as.nd rfl (.inl rfl)) pgs_nil)))) (fun _ _ _ _ _ => pts_nil) (fun _ _ _ _ _ => (pe_ifExp (pt_cmpR (op_gEq (K := K) rfl hr.units) (pv 3) pe_str (nomark _)) (pe_call (ok_is_digit T) (hr.mono (by decide)) rfl T.m_is_digit T.k_is_digit T.b_is_digit .nil pass0 (pa_cons (pv 2) pa_nil)) (pe_cmpR (op_gEq (K := K) rfl hr.units) (pv 2) (pv 3) (nomark _))))) pa_nil))))), ?_⟩
    walk_at "v"
    refine r_ifD (fun e0 => ?_) (fun e0 => ?_)
    · walk_at "v"
      have hb : bgn ts fs = false := bgn_short (by omega)
      rw [hb] at k
      exact k _ S
    · walk_at "v"
      refine lcZM S hi hj (by omega) (fun D i H' => Sep (At D (.lst (((bgl ts fs).take i).map V.bl)) :: fr) H') (fun D H' S' => S') (fun D i H' S' => ⟨SqL.of (S'.at (hasS hi)), SqT.of (S'.tp (hasS hj))⟩) ?_ ?_
      · intro D i x y T' H1 H2 hx hy S1 hT e
        rw [List.getElem?_map] at hx hy
        obtain ⟨t, ht, rfl⟩ := Option.map_eq_some_iff.1 hx
        obtain ⟨f, hf, rfl⟩ := Option.map_eq_some_iff.1 hy
        have S2 := S1.newT (xs := [.str t, .str f]) hT
        rw [← e] at S2
        clear e
        have lt := h1 t (List.mem_of_getElem? ht)
        have lf := h3 f (List.mem_of_getElem? hf)
        have hlen := bgl_len (fs := fs) (ts := ts) (by omega)
        have hii := get_lt hf
        have hg := bgl_get ht hf
        refine lc_turn ?_
        walk_at "v"
        refine r_ifD (fun e0 => ?_) (fun e0 => ?_)
        · walk_at "v"
          refine ⟨t, rfl, lt, ?_⟩
          walk_at "v"
          rename_i S3
          rw [take_snoc hg, List.map_append]
          have hb : bgn1 t f = decide (Dg t) := by unfold bgn1; rw [if_pos e0]
          rw [hb]
          exact S3.tail
        · walk_at "v"
          rename_i S3
          rw [take_snoc hg, List.map_append]
          have hb : bgn1 t f = decide (t = f) := by unfold bgn1; rw [if_neg e0]
          rw [hb]
          exact S3.tail
      · intro D H1 S1
        rw [l2, ← bgl_len (fs := fs) (ts := ts) (by omega), List.take_length] at S1
        walk_at "v"
        rw [bgl_all (by omega)]
        exact k _ S1.tail
/-! BadRule___init__ -/
abbrev sp_BadRule___init__ (K : PySem.W.Frag) : Sp := sp_exi K "what"
theorem ok_BadRule___init__ (T : Txt K mg A) : FnOk P w K mg base CX0 1 A.f_BadRule___init__ A.fd_BadRule___init__ ["self", "what"] (sp_BadRule___init__ K) := by
  refine T.F_BadRule___init__.ok sc_BadRule___init__ (fun vs H Q E h => ?_) (fun cdv A' outer s0 H vs Q E hr h => ?_)
  · obtain ⟨a, C, x, rfl, _⟩ := h
    rfl
  · obtain ⟨a, C, x, rfl, hT, hn, ha, k⟩ := h
    refine ⟨_, (pss_one (ps_gOst (K := K) rfl (pv 0) (pv 1))), ?_⟩
    walk_at "v"
    exact ⟨a, C, rfl, hT, hn, .inl ⟨ha, fun dx h1 h2 => k dx h1 h2⟩⟩
/-! is_word -/
def isWd (w : Str) : Bool := decide (Wd w)
def sp_is_word (K : PySem.W.Frag) : Sp := fun vs H Q _ => ∃ (x : V) (fr : List Asn), vs = [x] ∧ Sep fr H ∧
  ((∃ w : Str, x = .str w ∧ w.length ≤ 3000 ∧ ∀ H', Sep fr H' → Q (.bl (decide (Wd w))) H') ∨ ∃ t, TyX K H x t ∧ PySem.W.kitOne K t (.type "str") = some false ∧ Q (.bl false) H)
theorem c_is_word {K : PySem.W.Frag} {l : List Asn} {H : Hp} {w : Str} {Q : VK} {E : XK} (S : Sep l H) (hz : w.length ≤ 3000) (k : ∀ H', Sep l H' → Q (.bl (decide (Wd w))) H') : sp_is_word K [.str w] H Q E :=
  ⟨_, l, rfl, S, .inl ⟨w, rfl, hz, k⟩⟩
theorem c_is_wordN {K : PySem.W.Frag} {l : List Asn} {H : Hp} {x : V} {t : Value} {Q : VK} {E : XK} (S : Sep l H) (hx : TyX K H x t) (ht : PySem.W.kitOne K t (.type "str") = some false) (q : Q (.bl false) H) : sp_is_word K [x] H Q E :=
  ⟨_, l, rfl, S, .inr ⟨t, hx, ht, q⟩⟩
theorem ok_is_word (T : Txt K mg A) : FnOk P w K mg base CX0 1 A.f_is_word A.fd_is_word ["value"] (sp_is_word K) := by
  refine T.F_is_word.ok sc_is_word (fun vs H Q E h => ?_) (fun cdv A' outer s0 H vs Q E hr h => ?_)
  · obtain ⟨x, fr, rfl, _⟩ := h
    rfl
  · obtain ⟨x, fr, rfl, S, ⟨w, rfl, hz, k⟩ | ⟨t, hx, ht, q⟩⟩ := h
    · refine ⟨_, (pss_cons (ps_if (PW.pt (pw_or (pt_not (pt_val (pe_callB (call_gIsi (K := K) rfl) (by rfl) T.n_isinstance (by decide +kernel) (pa_cons (pv 0) (pa_cons (pe_bltn (v := .ty "str") (by rfl) T.n_str (by decide +kernel) rfl) pa_nil))))) (pw_or1 (pt_not (pt_chain op_gLe op_gLe pe_int (pe_callB (call_gLen (K := K) rfl) (by rfl) T.n_len (by decide +kernel) (pa_cons (pv 0) pa_nil)) pe_int))))) (pss_one (ps_ret pe_bl)) pss_nil)
      (pss_one (ps_ret (pe_callB (call_gAll (K := K) rfl rfl) (by rfl) T.n_all (by decide +kernel) (pa_cons (pe_lc (own := [("letter", 1)]) (g := (gName 1)) rfl sc_is_word.nd (pi_str (pv 0)) (blkOk_by (N := ["value", "letter"]) (sc := defScope s_is_word) (by decide +kernel)) (fun _ _ _ _ _ => (pg_name (i := 1) sc_is_word.nd rfl (.inl rfl))) (fun _ _ _ _ _ => pts_nil) (fun _ _ _ _ _ => (pe_cmpR (op_gIn (K := K) rfl) (pv 1) (pe_globE rfl T.e_LETTERS) (by rfl)))) pa_nil))))), ?_⟩
      walk_at "v"
      refine c_lenS (Nat.le_trans hz (by decide)) ?_
      walk_at "v"
      refine r_ifD (fun e0 => ?_) (fun e0 => ?_)
      · walk_at "v"
        refine r_ifN (fun e1 => ?_) (fun e1 => ?_)
        · walk_at "v"
          have hn : ¬ Wd w := fun z => e1 (by have := z.2.1; omega)
          rw [decide_eq_false hn] at k
          exact k _ S
        · walk_at "v"
          refine lcS S (fun D i H' => Sep (At D (.lst (((w.cps.toList.take i).map fun c => decide (c ∈ abc)).map V.bl)) :: fr) H') (fun D H' S' => S') ?_ ?_
          · intro D i c H1 hc S1
            have hc' : w.cps.toList[i]? = some c := by rw [Array.getElem?_toList]; exact hc
            have hi := get_lt hc'
            have hl : w.cps.toList.length = w.length := by simp [Str.length]
            refine lc_turn ?_
            walk_at "v"
            rename_i S2
            rw [take_snoc hc', List.map_append, List.map_append]
            exact S2
          · intro D H1 S1
            walk_at "v"
            have e : ((w.cps.toList.take w.cps.size).map fun c => decide (c ∈ abc)).all id = decide (Wd w) := by
              have hl : w.cps.toList.length = w.length := by simp [Str.length]
              have hz : w.cps.size = w.cps.toList.length := by simp
              rw [hz, List.take_length]
              by_cases hw : Wd w
              · rw [decide_eq_true hw, List.all_map, List.all_eq_true]
                exact fun c hc => decide_eq_true (hw.2.2 c hc)
              · rw [decide_eq_false hw, List.all_map]
                refine Bool.eq_false_iff.2 fun z => hw ⟨by omega, by omega, fun c hc => ?_⟩
                exact of_decide_eq_true (List.all_eq_true.1 z c hc)
            rw [e]
            exact k _ S1.tail
      · walk_at "v"
        have hn : ¬ Wd w := fun z => e0 (by have := z.1; omega)
        rw [decide_eq_false hn] at k
        exact k _ S
    · refine ⟨_, (pss_cons (ps_if (PW.pt (pw_or (pt_not (pt_val (pe_callB (call_gIsi (K := K) rfl) (by rfl) T.n_isinstance (by decide +kernel) (pa_cons (pv 0) (pa_cons (pe_bltn (v := .ty "str") (by rfl) T.n_str (by decide +kernel) rfl) pa_nil))))) (pw_or1 (pt_not (pt_chain op_gLe op_gLe pe_int (pe_callB (call_gLen (K := K) rfl) (by rfl) T.n_len (by decide +kernel) (pa_cons (pv 0) pa_nil)) pe_int))))) (pss_one (ps_ret pe_bl)) pss_nil)
      (pss_one (ps_ret (pe_callB (call_gAll (K := K) rfl rfl) (by rfl) T.n_all (by decide +kernel) (pa_cons (pe_lc (own := [("letter", 1)]) (g := (gName 1)) rfl sc_is_word.nd (pi_str (pv 0)) (blkOk_by (N := ["value", "letter"]) (sc := defScope s_is_word) (by decide +kernel)) (fun _ _ _ _ _ => (pg_name (i := 1) sc_is_word.nd rfl (.inl rfl))) (fun _ _ _ _ _ => pts_nil) (fun _ _ _ _ _ => (pe_cmpR (op_gIn (K := K) rfl) (pv 1) (pe_globE rfl T.e_LETTERS) (by rfl)))) pa_nil))))), ?_⟩
      walk_at "v"
      refine i_one (.ty "str") hx ht ?_
      walk_at "v"
      exact q
local macro_rules | `(tactic| walk_at "v1") => `(tactic| ((with_reducible refine' c_is_word (by assumption) ?hz ?_); (case hz => (first | assumption | omega)); intro _ _))
/-! words_between_signs -/
/-- words with a sign between each two -/
def inter : List Str → List Str
  | [] => []
  | [k] => [k]
  | k :: l :: ks => k :: "+" :: inter (l :: ks)
theorem ev_inter : ∀ ks : List Str, ev (inter ks) = ks
  | [] => rfl
  | [k] => rfl
  | k :: l :: ks => by
    show k :: ev (inter (l :: ks)) = _
    rw [ev_inter (l :: ks)]
theorem ev_inter1 : ∀ ks : List Str, ev ((inter ks).drop 1) = List.replicate (ks.length - 1) ("+" : Str)
  | [] => rfl
  | [k] => rfl
  | [k, l] => rfl
  | k :: l :: m :: ks => by
    have h := ev_inter1 (l :: m :: ks)
    show ev (("+" : Str) :: l :: "+" :: inter (m :: ks)) = _
    have h' : ev (("+" : Str) :: inter (m :: ks)) = List.replicate ((l :: m :: ks).length - 1) ("+" : Str) := h
    show ("+" : Str) :: ev (("+" : Str) :: inter (m :: ks)) = _
    rw [h']; rfl
theorem inter_of : ∀ {ts : List Str}, (ev ts).length = (ev (ts.drop 1)).length + 1 → (∀ s ∈ ev (ts.drop 1), s = "+") → ts = inter (ev ts) ∧ ev ts ≠ []
  | [], h, _ => by simp [ev] at h
  | [t], _, _ => ⟨rfl, by simp [ev]⟩
  | [t, s], h, _ => by simp [ev] at h
  | t :: s :: u :: ts, h, hs => by
    have e1 : s = "+" := hs s (by cases ts <;> simp [ev])
    have h' : (ev (u :: ts)).length = (ev ((u :: ts).drop 1)).length + 1 := by
      have h2 : (ev (u :: ts)).length + 1 = (ev (s :: u :: ts)).length + 1 := h
      have h3 : (ev (s :: u :: ts)).length = (ev ts).length + 1 := by show (s :: ev ts).length = _; rfl
      show _ = (ev ts).length + 1
      omega
    obtain ⟨i1, i2⟩ := inter_of h' fun x hx => hs x (by show x ∈ s :: ev ts; exact List.mem_cons_of_mem _ hx)
    refine ⟨?_, by simp [ev]⟩
    subst e1
    show _ = inter (t :: ev (u :: ts))
    cases e : ev (u :: ts) with
    | nil => exact (i2 e).elim
    | cons x l =>
      show _ = t :: "+" :: inter (x :: l)
      rw [← e, ← i1]
theorem all_dec {α : Type} {P : α → Prop} [DecidablePred P] {l : List α} : (l.map fun w => decide (P w)).all id = decide (∀ w ∈ l, P w) := by
  rw [List.all_map]
  by_cases h : ∀ w ∈ l, P w
  · rw [decide_eq_true h, List.all_eq_true]
    exact fun w hw => decide_eq_true (h w hw)
  · rw [decide_eq_false h]
    exact Bool.eq_false_iff.2 fun z => h fun w hw => of_decide_eq_true (List.all_eq_true.1 z w hw)
/-- well written words -/
def Btw (ts ks : List Str) : Prop := ts = inter ks ∧ ks ≠ [] ∧ ∀ w ∈ ks, Wd w
theorem btw_ev {ts ks : List Str} (h : Btw ts ks) : ks = ev ts := by rw [h.1, ev_inter]
def spX_words_between_signs (K : PySem.W.Frag) (A : Ad) : Sp := fun vs H Q E => ∃ (p : Addr) (ts : List Str) (i : Nat) (fr : List Asn), vs = [.ref p] ∧ fr[i]? = some (At p (.lst (ts.map V.str))) ∧ (∀ t ∈ ts, t.length ≤ 3000) ∧ ts.length ≤ 3001 ∧ Sep fr H ∧
  (∀ ks, Btw ts ks → ∀ D H', Sep (At D (.lst (ks.map V.str)) :: fr) H' → Q (.ref D) H') ∧ ((¬ ∃ ks, Btw ts ks) → ∀ d H', Sep (At d (.xd [("what", .str "text")]) :: fr) H' → E (.ref A.c_BadRule) (some d) H')
theorem okX_words_between_signs (T : Txt K mg A) : FnOk P w K mg base (L2.CX P w) 3 A.f_words_between_signs A.fd_words_between_signs ["tokens"] (spX_words_between_signs K A) := by
  refine T.F_words_between_signs.okX sc_words_between_signs (fun vs H Q E h => ?_) (fun cdv A' outer s0 H vs Q E hr h => ?_)
  · obtain ⟨p, ts, i, fr, rfl, _⟩ := h
    rfl
  · obtain ⟨p, ts, i0, fr, rfl, hi, h1, h2, S, kN, kX⟩ := h
    have hmk : ∀ {H1 : Hp}, (¬ ∃ ks, Btw ts ks) → Sep fr H1 → gMkO A.c_BadRule (sp_BadRule___init__ K) [] [.str "text"] H1 fun cls d H' => E cls d H' := fun hv S1 => mk_one S1 T.ox_BadRule T.xn_BadRule_what (kX hv)
    have l1 : (ts.map V.str).length = ts.length := List.length_map _
    have ew : evFrom none (ts.map V.str) = (ev ts).map V.str := ev_map _ _
    have es : evFrom (some 1) (ts.map V.str) = (ev (ts.drop 1)).map V.str := by
      show ev ((ts.map V.str).drop 1) = _
      rw [← List.map_drop, ev_map]
    have hw1 : ∀ w ∈ ev ts, w.length ≤ 3000 := fun w hw => h1 w (ev_mem hw)
    have hs1 : ∀ w ∈ ev (ts.drop 1), w.length ≤ 3000 := fun w hw => h1 w (List.mem_of_mem_drop (ev_mem hw))
    have lws : (ev ts).length ≤ 3001 := by rw [ev_len]; omega
    have lss : (ev (ts.drop 1)).length ≤ 3001 := by rw [ev_len, List.length_drop]; omega
    have hb : ∀ ks, Btw ts ks → (ev ts).length = (ev (ts.drop 1)).length + 1 ∧ (∀ w ∈ ev ts, Wd w) ∧ ∀ s ∈ ev (ts.drop 1), s = "+" := by
      rintro ks ⟨e, hn, hw⟩
      have hk : 0 < ks.length := List.length_pos_iff.2 hn
      rw [e, ev_inter, ev_inter1]
      exact ⟨by rw [List.length_replicate]; omega, hw, fun s hs => (List.mem_replicate.1 hs).2⟩
    have hc : (ev ts).length = (ev (ts.drop 1)).length + 1 → (∀ w ∈ ev ts, Wd w) → (∀ s ∈ ev (ts.drop 1), s = "+") → Btw ts (ev ts) := fun a b c => ⟨(inter_of a c).1, (inter_of a c).2, b⟩
    refine ⟨_, (pss_cons (ps_set (i := 1) sc_words_between_signs.nd rfl (.inl rfl) (pe_sliceEv (K := K) rfl (pv 0) po_none))
      (pss_cons (ps_set (i := 2) sc_words_between_signs.nd rfl (.inl rfl) (pe_sliceEv (K := K) rfl (pv 0) (po_some pe_int)))
      (pss_cons (ps_if (PW.pt (pw_or (pt_cmpR (op_gNe (K := K) rfl hr.units) (pe_callB (call_gLen (K := K) rfl) (by rfl) T.n_len (by decide +kernel) (pa_cons (pv 1) pa_nil)) (pe_op op_gAdd (pe_callB (call_gLen (K := K) rfl) (by rfl) T.n_len (by decide +kernel) (pa_cons (pv 2) pa_nil)) pe_int) (nomark _)) (pw_or1 (pt_not (pt_val (pe_callB (call_gAll (K := K) rfl rfl) (by rfl) T.n_all (by decide +kernel) (pa_cons (pe_lc (own := [("word", 3)]) (g := (gName 3)) rfl sc_words_between_signs.nd (pi_gList (K := K) rfl (pv 1)) (blkOk_by (N := ["tokens", "words", "signs", "word", "sign"]) (sc := defScope s_words_between_signs) (by decide +kernel)) (fun _ _ _ _ _ => (pg_name (i := 3) sc_words_between_signs.nd rfl (.inl rfl))) (fun _ _ _ _ _ => pts_nil) (fun _ _ _ _ _ => (pe_call (ok_is_word T) (hr.mono (by decide)) rfl T.m_is_word T.k_is_word T.b_is_word .nil pass0 (pa_cons (pv 3) pa_nil)))) pa_nil))))))) (pss_one (ps_gRaise rfl (takes_of rfl rfl rfl rfl) (pmk_oex T.ox_BadRule T.oi_BadRule T.ot_BadRule (ok_BadRule___init__ (K := K) T) (hr.mono (by decide)) T.b_BadRule___init__ .nil pass0 rfl T.vm_BadRule (pa_cons pe_str pa_nil)))) pss_nil)
      (pss_cons (ps_if (pt_not (pt_val (pe_callB (call_gAll (K := K) rfl rfl) (by rfl) T.n_all (by decide +kernel) (pa_cons (pe_lc (own := [("sign", 4)]) (g := (gName 4)) rfl sc_words_between_signs.nd (pi_gList (K := K) rfl (pv 2)) (blkOk_by (N := ["tokens", "words", "signs", "word", "sign"]) (sc := defScope s_words_between_signs) (by decide +kernel)) (fun _ _ _ _ _ => (pg_name (i := 4) sc_words_between_signs.nd rfl (.inl rfl))) (fun _ _ _ _ _ => pts_nil) (fun _ _ _ _ _ => (pe_cmpR (op_gEq (K := K) rfl hr.units) (pv 4) pe_str (nomark _)))) pa_nil)))) (pss_one (ps_gRaise rfl (takes_of rfl rfl rfl rfl) (pmk_oex T.ox_BadRule T.oi_BadRule T.ot_BadRule (ok_BadRule___init__ (K := K) T) (hr.mono (by decide)) T.b_BadRule___init__ .nil pass0 rfl T.vm_BadRule (pa_cons pe_str pa_nil)))) pss_nil)
      (pss_one (ps_ret (pv 1))))))), ?_⟩
    walk_at "v"
    rename_i D1 H1 S1 D2 H2 S2
    clear S1
    rw [ew, es] at S2
    rw [ew, es]
    generalize ev ts = ws at *
    generalize ev (ts.drop 1) = ss at *
    have l3 : (ws.map V.str).length = ws.length := List.length_map _
    have l4 : (ss.map V.str).length = ss.length := List.length_map _
    rw [l3, l4]
    refine r_ifN (fun e0 => ?_) (fun e0 => ?_)
    · walk_at "v"
      exact hmk (fun ⟨ks, z⟩ => e0 (by have := (hb ks z).1; omega)) S2.tail.tail
    · walk_at "v"
      refine lcL S2 (hasS has0) (fun D i H' => Sep (At D (.lst (((ws.take i).map fun w => decide (Wd w)).map V.bl)) :: At D2 (.lst (ss.map V.str)) :: At D1 (.lst (ws.map V.str)) :: fr) H') (fun D H' S' => S') (fun D i H' S' => S'.at (i := 2) rfl) ?_ ?_
      · intro D i x H3 hx S3
        rw [List.getElem?_map] at hx
        obtain ⟨w, hw, rfl⟩ := Option.map_eq_some_iff.1 hx
        have hlw := hw1 w (List.mem_of_getElem? hw)
        have hii := get_lt hw
        refine lc_turn ?_
        walk_at "v"
        rename_i S4
        rw [take_snoc hw, List.map_append, List.map_append]
        exact S4
      · intro D H3 S3
        rw [l3, List.take_length] at S3
        walk_at "v"
        rw [all_dec]
        refine r_ifN (fun e1 => ?_) (fun hwd => ?_)
        · walk_at "v"
          exact hmk (fun ⟨ks, z⟩ => e1 (hb ks z).2.1) S3.tail.tail.tail
        · skip
          walk_at "v"
          refine lcL S3 (hasS has0) (fun D' i H' => Sep (At D' (.lst (((ss.take i).map fun w : Str => decide (w = ("+" : Str))).map V.bl)) :: At D2 (.lst (ss.map V.str)) :: At D1 (.lst (ws.map V.str)) :: fr) H') (fun D' H' S' => S'.drops [1]) (fun D i H' S' => S'.at (i := 1) rfl) ?_ ?_
          · intro D' i x H4 hx S4
            rw [List.getElem?_map] at hx
            obtain ⟨w, hw, rfl⟩ := Option.map_eq_some_iff.1 hx
            have hlw := hs1 w (List.mem_of_getElem? hw)
            have hii := get_lt hw
            refine lc_turn ?_
            walk_at "v"
            rename_i S5
            rw [take_snoc hw, List.map_append, List.map_append]
            exact S5
          · intro D' H4 S4
            rw [l4, List.take_length] at S4
            walk_at "v"
            rw [all_dec]
            refine r_ifN (fun e2 => ?_) (fun hpl => ?_)
            · walk_at "v"
              exact hmk (fun ⟨ks, z⟩ => e2 (hb ks z).2.2) S4.tail.tail.tail
            · skip
              walk_at "v"
              exact kN ws (hc (by omega) hwd hpl) D1 _ S4.tail.tail
theorem x_words_between {K : PySem.W.Frag} {A : Ad} {l : List Asn} {H : Hp} {i : Nat} {p : Addr} {ts : List Str} {Q : VK} {E : XK} (S : Sep l H) (e : l[i]? = some (At p (.lst (ts.map V.str)))) (h1 : ∀ t ∈ ts, t.length ≤ 3000) (h2 : ts.length ≤ 3001)
    (kN : ∀ ks, Btw ts ks → ∀ D H', Sep (At D (.lst (ks.map V.str)) :: l) H' → Q (.ref D) H') (kX : (¬ ∃ ks, Btw ts ks) → ∀ d H', Sep (At d (.xd [("what", .str "text")]) :: l) H' → E (.ref A.c_BadRule) (some d) H') : spX_words_between_signs K A [.ref p] H Q E :=
  ⟨p, ts, i, l, rfl, e, h1, h2, S, kN, kX⟩
/-! is_number -/
def sp_is_number (K : PySem.W.Frag) : Sp := fun vs H Q _ => ∃ (x : V), vs = [x] ∧
  ((∃ n : Int, x = .int n ∧ Q (.bl true) H) ∨ (∃ b : Bool, x = .bl b ∧ Q (.bl false) H) ∨ ∃ t, TyX K H x t ∧ PySem.W.kitOne K t (.type "int") = some false ∧ Q (.bl false) H)
theorem c_is_number {K : PySem.W.Frag} {H : Hp} {n : Int} {Q : VK} {E : XK} (q : Q (.bl true) H) : sp_is_number K [.int n] H Q E := ⟨_, rfl, .inl ⟨n, rfl, q⟩⟩
theorem c_is_numberB {K : PySem.W.Frag} {H : Hp} {b : Bool} {Q : VK} {E : XK} (q : Q (.bl false) H) : sp_is_number K [.bl b] H Q E := ⟨_, rfl, .inr (.inl ⟨b, rfl, q⟩)⟩
theorem c_is_numberN {K : PySem.W.Frag} {H : Hp} {x : V} {t : Value} {Q : VK} {E : XK} (hx : TyX K H x t) (ht : PySem.W.kitOne K t (.type "int") = some false) (q : Q (.bl false) H) : sp_is_number K [x] H Q E := ⟨_, rfl, .inr (.inr ⟨t, hx, ht, q⟩)⟩
theorem ok_is_number (T : Txt K mg A) : FnOk P w K mg base CX0 1 A.f_is_number A.fd_is_number ["value"] (sp_is_number K) := by
  refine T.F_is_number.ok sc_is_number (fun vs H Q E h => ?_) (fun cdv A' outer s0 H vs Q E hr h => ?_)
  · obtain ⟨x, rfl, _⟩ := h
    rfl
  · obtain ⟨x, rfl, ⟨n, rfl, q⟩ | ⟨b, rfl, q⟩ | ⟨t, hx, ht, q⟩⟩ := h
    · refine ⟨_, (pss_one (ps_ret (pe_and (pe_callB (call_gIsi (K := K) rfl) (by rfl) T.n_isinstance (by decide +kernel) (pa_cons (pv 0) (pa_cons (pe_bltn (v := .ty "int") (by rfl) T.n_int (by decide +kernel) rfl) pa_nil))) (pe_one (pe_not (pe_callB (call_gIsi (K := K) rfl) (by rfl) T.n_isinstance (by decide +kernel) (pa_cons (pv 0) (pa_cons (pe_bltn (v := .ty "bool") (by rfl) T.n_bool (by decide +kernel) rfl) pa_nil)))))))), ?_⟩
      walk_at "v"
      exact q
    · refine ⟨_, (pss_one (ps_ret (pe_and (pe_callB (call_gIsi (K := K) rfl) (by rfl) T.n_isinstance (by decide +kernel) (pa_cons (pv 0) (pa_cons (pe_bltn (v := .ty "int") (by rfl) T.n_int (by decide +kernel) rfl) pa_nil))) (pe_one (pe_not (pe_callB (call_gIsi (K := K) rfl) (by rfl) T.n_isinstance (by decide +kernel) (pa_cons (pv 0) (pa_cons (pe_bltn (v := .ty "bool") (by rfl) T.n_bool (by decide +kernel) rfl) pa_nil)))))))), ?_⟩
      walk_at "v"
      exact q
    · refine ⟨_, (pss_one (ps_ret (pe_and (pe_callB (call_gIsi (K := K) rfl) (by rfl) T.n_isinstance (by decide +kernel) (pa_cons (pv 0) (pa_cons (pe_bltn (v := .ty "int") (by rfl) T.n_int (by decide +kernel) rfl) pa_nil))) (pe_one (pe_not (pe_callB (call_gIsi (K := K) rfl) (by rfl) T.n_isinstance (by decide +kernel) (pa_cons (pv 0) (pa_cons (pe_bltn (v := .ty "bool") (by rfl) T.n_bool (by decide +kernel) rfl) pa_nil)))))))), ?_⟩
      walk_at "v"
      refine i_one (.ty "int") hx ht ?_
      walk_at "v"
      exact q
local macro_rules | `(tactic| walk_at "v1") => `(tactic| (first | with_reducible refine c_is_number ?_ | with_reducible refine c_is_numberB ?_))
/-! is_index -/
def sp_is_index (K : PySem.W.Frag) : Sp := fun vs H Q _ => ∃ (x : V) (e : Int), vs = [x, .int e] ∧ ((∃ n : Int, x = .int n ∧ Q (.bl (decide (0 ≤ n ∧ n < e))) H) ∨ (∃ b : Bool, x = .bl b ∧ Q (.bl false) H) ∨ ∃ t, TyX K H x t ∧ PySem.W.kitOne K t (.type "int") = some false ∧ Q (.bl false) H)
theorem c_is_index {K : PySem.W.Frag} {H : Hp} {n e : Int} {Q : VK} {E : XK} (q : Q (.bl (decide (0 ≤ n ∧ n < e))) H) : sp_is_index K [.int n, .int e] H Q E := ⟨_, e, rfl, .inl ⟨n, rfl, q⟩⟩
theorem c_is_indexB {K : PySem.W.Frag} {H : Hp} {b : Bool} {e : Int} {Q : VK} {E : XK} (q : Q (.bl false) H) : sp_is_index K [.bl b, .int e] H Q E := ⟨_, e, rfl, .inr (.inl ⟨b, rfl, q⟩)⟩
theorem c_is_indexN {K : PySem.W.Frag} {H : Hp} {x : V} {e : Int} {t : Value} {Q : VK} {E : XK} (hx : TyX K H x t) (ht : PySem.W.kitOne K t (.type "int") = some false) (q : Q (.bl false) H) : sp_is_index K [x, .int e] H Q E := ⟨_, e, rfl, .inr (.inr ⟨t, hx, ht, q⟩)⟩
theorem ok_is_index (T : Txt K mg A) : FnOk P w K mg base CX0 2 A.f_is_index A.fd_is_index ["value", "end"] (sp_is_index K) := by
  refine T.F_is_index.ok sc_is_index (fun vs H Q E h => ?_) (fun cdv A' outer s0 H vs Q E hr h => ?_)
  · obtain ⟨n, e, rfl, _⟩ := h
    rfl
  · obtain ⟨x, e, rfl, ⟨n, rfl, q⟩ | ⟨b, rfl, q⟩ | ⟨t, hx, ht, q⟩⟩ := h
    · refine ⟨_, (pss_one (ps_ret (pe_and (pe_call (ok_is_number T) (hr.mono (by decide)) rfl T.m_is_number T.k_is_number T.b_is_number .nil pass0 (pa_cons (pv 0) pa_nil)) (pe_one (pe_chain op_gLe op_gLt pe_int (pv 0) (pv 1)))))), ?_⟩
      walk_at "v"
      refine r_ifD (fun e0 => ?_) (fun e0 => ?_)
      · walk_at "v"
        by_cases e1 : n < e
        · rw [decide_eq_true e1]
          rw [decide_eq_true (show 0 ≤ n ∧ n < e from ⟨e0, e1⟩)] at q
          exact q
        · rw [decide_eq_false e1]
          rw [decide_eq_false (show ¬ (0 ≤ n ∧ n < e) from fun z => e1 z.2)] at q
          exact q
      · rw [decide_eq_false (show ¬ (0 ≤ n ∧ n < e) from fun z => e0 z.1)] at q
        exact q
    · refine ⟨_, (pss_one (ps_ret (pe_and (pe_call (ok_is_number T) (hr.mono (by decide)) rfl T.m_is_number T.k_is_number T.b_is_number .nil pass0 (pa_cons (pv 0) pa_nil)) (pe_one (pe_chain op_gLe op_gLt pe_int (pv 0) (pv 1)))))), ?_⟩
      walk_at "v"
      exact q
    · refine ⟨_, (pss_one (ps_ret (pe_and (pe_call (ok_is_number T) (hr.mono (by decide)) rfl T.m_is_number T.k_is_number T.b_is_number .nil pass0 (pa_cons (pv 0) pa_nil)) (pe_one (pe_chain op_gLe op_gLt pe_int (pv 0) (pv 1)))))), ?_⟩
      walk_at "v"
      refine c_is_numberN hx ht ?_
      walk_at "v"
      exact q
local macro_rules | `(tactic| walk_at "v1") => `(tactic| (with_reducible refine c_is_index ?_))
/-! is_kind -/
def sp_is_kind (K : PySem.W.Frag) : Sp := fun vs H Q _ => ∃ (x : V) (fr : List Asn), vs = [x] ∧ Sep fr H ∧
  ((∃ w : Str, x = .str w ∧ w.length ≤ 3000 ∧ ∀ H', Sep fr H' → Q (.bl (decide (Kd w))) H') ∨ ∃ t, TyX K H x t ∧ PySem.W.kitOne K t (.type "str") = some false ∧ Q (.bl false) H)
theorem c_is_kind {K : PySem.W.Frag} {l : List Asn} {H : Hp} {w : Str} {Q : VK} {E : XK} (S : Sep l H) (hz : w.length ≤ 3000) (k : ∀ H', Sep l H' → Q (.bl (decide (Kd w))) H') : sp_is_kind K [.str w] H Q E :=
  ⟨_, l, rfl, S, .inl ⟨w, rfl, hz, k⟩⟩
theorem c_is_kindN {K : PySem.W.Frag} {l : List Asn} {H : Hp} {x : V} {t : Value} {Q : VK} {E : XK} (S : Sep l H) (hx : TyX K H x t) (ht : PySem.W.kitOne K t (.type "str") = some false) (q : Q (.bl false) H) : sp_is_kind K [x] H Q E :=
  ⟨_, l, rfl, S, .inr ⟨t, hx, ht, q⟩⟩
theorem ok_is_kind (T : Txt K mg A) : FnOk P w K mg base CX0 2 A.f_is_kind A.fd_is_kind ["value"] (sp_is_kind K) := by
  refine T.F_is_kind.ok sc_is_kind (fun vs H Q E h => ?_) (fun cdv A' outer s0 H vs Q E hr h => ?_)
  · obtain ⟨x, fr, rfl, _⟩ := h
    rfl
  · obtain ⟨x, fr, rfl, S, ⟨w, rfl, hz, k⟩ | ⟨t, hx, ht, q⟩⟩ := h
    · refine ⟨_, (pss_one (ps_ret (pe_and (pe_call (ok_is_word T) (hr.mono (by decide)) rfl T.m_is_word T.k_is_word T.b_is_word .nil pass0 (pa_cons (pv 0) pa_nil)) (pe_one (pe_cmpR (op_gNotIn (K := K) rfl) (pv 0) (pe_globE rfl T.e_BARRED) (by rfl)))))), ?_⟩
      walk_at "v"
      refine r_ifD (fun e0 => ?_) (fun e0 => ?_)
      · walk_at "v"
        rename_i H1 S1
        refine nin_tups (ws := barredL) (T.t_BARRED _) ?_
        have e : (!decide (w ∈ barredL)) = decide (Kd w) := by
          by_cases hb : w ∈ barredL
          · rw [decide_eq_true hb, decide_eq_false (fun z : Kd w => z.2 hb)]; rfl
          · rw [decide_eq_false hb, decide_eq_true (show Kd w from ⟨e0, hb⟩)]; rfl
        rw [e]
        exact k _ S1
      · rename_i H1 S1
        have e : decide (Kd w) = false := decide_eq_false fun z => e0 z.1
        rw [e] at k
        exact k _ S1
    · refine ⟨_, (pss_one (ps_ret (pe_and (pe_call (ok_is_word T) (hr.mono (by decide)) rfl T.m_is_word T.k_is_word T.b_is_word .nil pass0 (pa_cons (pv 0) pa_nil)) (pe_one (pe_cmpR (op_gNotIn (K := K) rfl) (pv 0) (pe_globE rfl T.e_BARRED) (by rfl)))))), ?_⟩
      walk_at "v"
      refine c_is_wordN S hx ht ?_
      walk_at "v"
      exact q
local macro_rules | `(tactic| walk_at "v1") => `(tactic| ((with_reducible refine' c_is_kind (by assumption) ?hz ?_); (case hz => (first | assumption | omega)); intro _ _))
/-! check_rule -/
def sp_check_rule (K : PySem.W.Frag) : Sp := fun vs H Q _ => ∃ (n t : Addr) (ns : List Int) (ks : List Str) (fr : List Asn), vs = [.ref n, .ref t] ∧ Ends ns ∧ Kds ks ∧ Sep (At n (.lst (ns.map V.int)) :: Tp t (ks.map V.str) :: fr) H ∧ ∀ H', Sep (At n (.lst (ns.map V.int)) :: Tp t (ks.map V.str) :: fr) H' → Q .non H'
theorem c_check_rule {K : PySem.W.Frag} {l : List Asn} {H : Hp} {i j : Nat} {n t : Addr} {ns : List Int} {ks : List Str} {Q : VK} {E : XK} (S : Sep l H) (e : l[i]? = some (At n (.lst (ns.map V.int)))) (e2 : (l.eraseIdx i)[j]? = some (Tp t (ks.map V.str))) (hn : Ends ns) (hk : Kds ks) (k : ∀ H', Sep l H' → Q .non H') : sp_check_rule K [.ref n, .ref t] H Q E :=
  ⟨n, t, ns, ks, _, rfl, hn, hk, Sep.fr1' e2 (S.pick e), fun H' S' => k H' (Sep.backS e (Sep.bk1' e2 S'))⟩
theorem ok_check_rule (T : Txt K mg A) : FnOk P w K mg base CX0 3 A.f_check_rule A.fd_check_rule ["numbers", "kinds"] (sp_check_rule K) := by
  refine T.F_check_rule.ok sc_check_rule (fun vs H Q E h => ?_) (fun cdv A' outer s0 H vs Q E hr h => ?_)
  · obtain ⟨n, t, ns, ks, fr, rfl, _⟩ := h
    rfl
  · obtain ⟨n, t, ns, ks, fr, rfl, ⟨hr1, hr2⟩, ⟨k1, k3, kn, kk⟩, S, k⟩ := h
    refine ⟨_, (pss_cons (ps_for PassesOwn.never rfl (pi_gList (K := K) rfl (pv 0)) (pg_name (i := 2) sc_check_rule.nd rfl (.inl rfl)) (pss_one (ps_if (pt_not (pt_val (pe_call (ok_is_index T) (hr.mono (by decide)) rfl T.m_is_index T.k_is_index T.b_is_index .nil pass0 (pa_cons (pv 2) (pa_cons pe_int pa_nil))))) (pss_one ps_never) pss_nil)))
      (pss_cut (ps_if (pt_cmpR op_gGt (pe_ix (ix_g (K := K) rfl) (pv 0) pe_int (fun _ _ => rfl)) (pe_ix (ix_g (K := K) rfl) (pv 0) (pe_un un_gNeg pe_int) (fun _ _ => rfl)) (nomark _)) (pss_one ps_never) pss_nil)
      (pss_cons (ps_if (pt_not (pt_chain op_gLe op_gLe pe_int (pe_callB (call_gLen (K := K) rfl) (by rfl) T.n_len (by decide +kernel) (pa_cons (pv 1) pa_nil)) pe_int)) (pss_one ps_never) pss_nil)
      (pss_one (ps_for PassesOwn.never rfl (pi_enumT (K := K) rfl (by rfl) T.n_enumerate (pa_cons (pv 1) pa_nil)) (pg_gTup (K := K) rfl rfl (pgs_cons (pg_name (i := 3) sc_check_rule.nd rfl (.inl rfl)) (pgs_cons (pg_name (i := 4) sc_check_rule.nd rfl (.inl rfl)) pgs_nil))) (pss_one (ps_if (PW.pt (pw_or (pt_not (pt_val (pe_call (ok_is_kind T) (hr.mono (by decide)) rfl T.m_is_kind T.k_is_kind T.b_is_kind .nil pass0 (pa_cons (pv 4) pa_nil)))) (pw_or1 (pt_cmpR (op_gIn (K := K) rfl) (pv 4) (pe_slice (sl_gTup (K := K) rfl) (pv 1) po_none (po_some (pv 3))) (by rfl))))) (pss_one ps_never) pss_nil))))))), ?_⟩
    walk_at "v"
    refine forL S has0 (fun i σ H => ∃ a b c, σ = [some (.ref n), some (.ref t), a, b, c] ∧ Sep (At n (.lst (ns.map V.int)) :: Tp t (ks.map V.str) :: fr) H) ⟨_, _, _, rfl, S⟩ (fun i σ H ⟨a, b, c, _, S'⟩ => S'.at (i := 0) rfl) ?_ ?_
    · rintro i x σ H1 hx ⟨a, b, c, rfl, S1⟩
      obtain ⟨m, hm, rfl⟩ : ∃ m, m ∈ ns ∧ x = V.int m := by
        have hx' := List.mem_of_getElem? hx
        obtain ⟨m, hm, e⟩ := List.mem_map.1 hx'
        exact ⟨m, hm, e.symm⟩
      have hb := hr1 m hm
      walk_at "v"
      exact ⟨_, _, _, rfl, S1⟩
    · rintro σ H1 ⟨a, b, c, rfl, S1⟩
      refine r_cut (fun σ H => ∃ a b c, σ = [some (.ref n), some (.ref t), a, b, c] ∧ Sep (At n (.lst (ns.map V.int)) :: Tp t (ks.map V.str) :: fr) H) ?_ ?_
      · rcases hr2 with ⟨x, rfl⟩ | ⟨x, y, rfl, hxy⟩
        · walk_at "v"
          exact ⟨_, _, _, rfl, S1⟩
        · walk_at "v"
          exact ⟨_, _, _, rfl, S1⟩
      rintro σ H2 ⟨a, b, c, rfl, S2⟩
      have hl : (ks.map V.str).length = ks.length := List.length_map _
      walk_at "v"
      refine forET S2 (hasS has0) (fun i σ H => ∃ a b c, σ = [some (.ref n), some (.ref t), a, b, c] ∧ Sep (At n (.lst (ns.map V.int)) :: Tp t (ks.map V.str) :: fr) H) ⟨_, _, _, rfl, S2⟩ (fun i σ H ⟨a, b, c, _, S'⟩ => S'.tp (i := 1) rfl) ?_ ?_
      · rintro i x T' σ H3 H4 hx ⟨a, b, c, rfl, S3⟩ hT rfl
        rw [List.getElem?_map] at hx
        cases ex : ks[i]? with
        | none => rw [ex] at hx; cases hx
        | some w =>
          rw [ex] at hx
          cases hx
          have hi := get_lt ex
          have hw := kk w (List.mem_of_getElem? ex)
          have S4 := S3.newT (xs := [.int (i : Nat), .str w]) hT
          have hl8 : w.length ≤ 3000 := by have := hw.len; omega
          generalize upd H3 T' (.tup [.int (i : Nat), .str w]) = H4 at S4 ⊢
          walk_at "v"
          refine s_tup (by assumption) (e := 2) rfl (fun z => ?_) fun D H6 S6 => ?_
          · have z2 := z.2
            rw [HT.sIx_nat, hl] at z2
            omega
          rw [cut_pre (by omega), ← List.map_take] at S6
          refine in_tups (ws := ks.take i) (SqT.of (S6.tp (i := 0) rfl)) ?_
          have hni : w ∉ ks.take i := by
            intro z
            obtain ⟨j, hj⟩ := List.mem_iff_getElem?.1 z
            have hji := get_lt hj
            rw [List.length_take] at hji
            rw [List.getElem?_take] at hj
            split at hj
            · have := (List.getElem?_inj (by omega) kn).1 (hj.trans ex.symm)
              omega
            · cases hj
          walk_at "v"
          exact ⟨_, _, _, rfl, S6.tail.tail⟩
      · rintro σ H3 ⟨a, b, c, rfl, S3⟩
        walk_at "v"
        exact k _ S3
local macro_rules | `(tactic| walk_at "v1") => `(tactic| ((with_reducible refine' c_check_rule (by assumption) ?hi ?hj ?hn ?hk ?_); (case hi => walk_at "has"); (case hj => walk_at "has"); (case hn => assumption); (case hk => assumption); intro _ _))
def spX_check_rule (K : PySem.W.Frag) (A : Ad) : Sp := fun vs H Q E => ∃ (n t : Addr) (ns ks : List V) (i j : Nat) (fr : List Asn), vs = [.ref n, .ref t] ∧ fr[i]? = some (At n (.lst ns)) ∧ fr[j]? = some (Tp t ks) ∧ ((∃ x, ns = [x]) ∨ ∃ x y, ns = [x, y]) ∧ (∀ x ∈ ns, Lx fr x) ∧ (∀ x ∈ ks, Lx fr x) ∧ ks.length ≤ 900 ∧ Sep fr H ∧
  (Ver ns ks none → ∀ H', Sep fr H' → Q .non H') ∧ ∀ w, Ver ns ks (some w) → ∀ d H', Sep (At d (.xd [("what", .str w)]) :: fr) H' → E (.ref A.c_BadRule) (some d) H'
theorem okX_check_rule (T : Txt K mg A) : FnOk P w K mg base (L2.CX P w) 3 A.f_check_rule A.fd_check_rule ["numbers", "kinds"] (spX_check_rule K A) := by
  refine T.F_check_rule.okX sc_check_rule (fun vs H Q E h => ?_) (fun cdv A' outer s0 H vs Q E hr h => ?_)
  · obtain ⟨n, t, ns, ks, i, j, fr, rfl, _⟩ := h
    rfl
  · obtain ⟨n, t, ns, ks, i0, j0, fr, rfl, hi0, hj0, hns, ln, lk, hkl, S, kN, kX⟩ := h
    have hmk : ∀ (w : Str) {H1 : Hp}, Ver ns ks (some w) → Sep fr H1 → gMkO A.c_BadRule (sp_BadRule___init__ K) [] [.str w] H1 fun cls d H' => E cls d H' := fun w H1 hv S1 => mk_one S1 T.ox_BadRule T.xn_BadRule_what (kX w hv)
    have hnl : ns.length ≤ 2 := by rcases hns with ⟨x, rfl⟩ | ⟨x, y, rfl⟩ <;> simp
    refine ⟨_, (pss_cons (ps_for (passes_of rfl) rfl (pi_gList (K := K) rfl (pv 0)) (pg_name (i := 2) sc_check_rule.nd rfl (.inl rfl)) (pss_one (ps_if (pt_not (pt_val (pe_call (ok_is_index T) (hr.mono (by decide)) rfl T.m_is_index T.k_is_index T.b_is_index .nil pass0 (pa_cons (pv 2) (pa_cons pe_int pa_nil))))) (pss_one (ps_gRaise rfl (takes_of rfl rfl rfl rfl) (pmk_oex T.ox_BadRule T.oi_BadRule T.ot_BadRule (ok_BadRule___init__ (K := K) T) (hr.mono (by decide)) T.b_BadRule___init__ .nil pass0 rfl T.vm_BadRule (pa_cons pe_str pa_nil)))) pss_nil)))
      (pss_cut (ps_if (pt_cmpR op_gGt (pe_ix (ix_g (K := K) rfl) (pv 0) pe_int (fun _ _ => rfl)) (pe_ix (ix_g (K := K) rfl) (pv 0) (pe_un un_gNeg pe_int) (fun _ _ => rfl)) (nomark _)) (pss_one (ps_gRaise rfl (takes_of rfl rfl rfl rfl) (pmk_oex T.ox_BadRule T.oi_BadRule T.ot_BadRule (ok_BadRule___init__ (K := K) T) (hr.mono (by decide)) T.b_BadRule___init__ .nil pass0 rfl T.vm_BadRule (pa_cons pe_str pa_nil)))) pss_nil)
      (pss_cons (ps_if (pt_not (pt_chain op_gLe op_gLe pe_int (pe_callB (call_gLen (K := K) rfl) (by rfl) T.n_len (by decide +kernel) (pa_cons (pv 1) pa_nil)) pe_int)) (pss_one (ps_gRaise rfl (takes_of rfl rfl rfl rfl) (pmk_oex T.ox_BadRule T.oi_BadRule T.ot_BadRule (ok_BadRule___init__ (K := K) T) (hr.mono (by decide)) T.b_BadRule___init__ .nil pass0 rfl T.vm_BadRule (pa_cons pe_str pa_nil)))) pss_nil)
      (pss_one (ps_for (passes_of rfl) rfl (pi_enumT (K := K) rfl (by rfl) T.n_enumerate (pa_cons (pv 1) pa_nil)) (pg_gTup (K := K) rfl rfl (pgs_cons (pg_name (i := 3) sc_check_rule.nd rfl (.inl rfl)) (pgs_cons (pg_name (i := 4) sc_check_rule.nd rfl (.inl rfl)) pgs_nil))) (pss_one (ps_if (PW.pt (pw_or (pt_not (pt_val (pe_call (ok_is_kind T) (hr.mono (by decide)) rfl T.m_is_kind T.k_is_kind T.b_is_kind .nil pass0 (pa_cons (pv 4) pa_nil)))) (pw_or1 (pt_cmpR (op_gIn (K := K) rfl) (pv 4) (pe_slice (sl_gTup (K := K) rfl) (pv 1) po_none (po_some (pv 3))) (by rfl))))) (pss_one (ps_gRaise rfl (takes_of rfl rfl rfl rfl) (pmk_oex T.ox_BadRule T.oi_BadRule T.ot_BadRule (ok_BadRule___init__ (K := K) T) (hr.mono (by decide)) T.b_BadRule___init__ .nil pass0 rfl T.vm_BadRule (pa_cons pe_str pa_nil)))) pss_nil))))))), ?_⟩
    walk_at "v"
    refine forL S hi0 (fun i σ H => ∃ a b c, σ = [some (.ref n), some (.ref t), a, b, c] ∧ Sep fr H ∧ ∀ x ∈ ns.take i, okN x) ⟨_, _, _, rfl, S, fun _ z => nomatch z⟩ (fun i σ H ⟨a, b, c, _, S', _⟩ => S'.at hi0) ?_ ?_
    · rintro i x σ H1 hx ⟨a, b, c, rfl, S1, hp⟩
      have hm := List.mem_of_getElem? hx
      rcases (ln x hm).int? (K := K) S1 with ⟨m, rfl⟩ | ⟨m, rfl⟩ | ⟨⟨t', ht1, ht2⟩, hne⟩
      · walk_at "v"
        refine r_ifN (fun e0 => ?_) (fun e0 => ?_)
        · walk_at "v"
          exact hmk _ (.inl ⟨.inl ⟨_, hm, fun z => e0 (okN_int.1 z)⟩, rfl⟩) S1
        · walk_at "v"
          refine ⟨_, _, _, rfl, S1, fun y hy => ?_⟩
          rw [take_snoc hx] at hy
          rcases List.mem_append.1 hy with hy | hy
          · exact hp y hy
          · rw [List.mem_singleton.1 hy]; exact okN_int.2 e0
      · walk_at "v"
        refine c_is_indexB ?_
        walk_at "v"
        exact hmk _ (.inl ⟨.inl ⟨_, hm, fun ⟨_, z, _⟩ => nomatch z⟩, rfl⟩) S1
      · walk_at "v"
        refine c_is_indexN ht1 ht2 ?_
        walk_at "v"
        exact hmk _ (.inl ⟨.inl ⟨_, hm, fun ⟨_, z, _⟩ => hne _ z⟩, rfl⟩) S1
    · rintro σ H1 ⟨a, b, c, rfl, S1, hp⟩
      rw [List.take_length] at hp
      refine r_cut (fun σ H => ∃ a b c, σ = [some (.ref n), some (.ref t), a, b, c] ∧ Sep fr H ∧ ¬ BadN ns) ?_ ?_
      · rcases hns with ⟨x, rfl⟩ | ⟨x, y, rfl⟩
        · obtain ⟨m, rfl, hm⟩ := hp x (List.mem_singleton.2 rfl)
          walk_at "v"
          refine ⟨_, _, _, rfl, S1, ?_⟩
          rintro (⟨z, hz, q⟩ | ⟨_, _, z, _⟩)
          · exact q (hp z hz)
          · cases z
        · obtain ⟨m, rfl, hm⟩ := hp x List.mem_cons_self
          obtain ⟨m2, rfl, hm2⟩ := hp y (List.mem_cons_of_mem _ (List.mem_singleton.2 rfl))
          walk_at "v"
          refine r_ifD (fun e0 => ?_) (fun e0 => ?_)
          · walk_at "v"
            exact hmk _ (.inl ⟨.inr ⟨m, m2, rfl, e0⟩, rfl⟩) S1
          · walk_at "v"
            refine ⟨_, _, _, rfl, S1, ?_⟩
            rintro (⟨z, hz, q⟩ | ⟨_, _, z, q⟩)
            · exact q (hp z hz)
            · cases z
              exact e0 q
      rintro σ H2 ⟨a, b, c, rfl, S2, hgood⟩
      walk_at "v"
      refine r_ifD (fun e0 => ?_) (fun e0 => ?_)
      · walk_at "v"
        refine r_ifN (fun e1 => ?_) (fun e1 => ?_)
        · walk_at "v"
          refine hmk _ (.inr (.inl ⟨hgood, .inl fun z => e1 ?_, rfl⟩)) S2
          omega
        · skip
          walk_at "v"
          refine forET S2 hj0 (fun i σ H => ∃ a b c, σ = [some (.ref n), some (.ref t), a, b, c] ∧ Sep fr H ∧ (∀ x ∈ ks.take i, okK x) ∧ (ks.take i).Nodup) ⟨_, _, _, rfl, S2, (fun _ z => nomatch z), List.nodup_nil⟩ (fun i σ H ⟨a, b, c, _, S', _⟩ => S'.tp hj0) ?_ ?_
          · rintro i x T' σ H3 H4 hx ⟨a, b, c, rfl, S3, hp, hn⟩ hT rfl
            have hm := List.mem_of_getElem? hx
            have hi := get_lt hx
            have S4' := S3.newT (xs := [.int (i : Nat), x]) hT
            generalize upd H3 T' (.tup [.int (i : Nat), x]) = H4 at S4' ⊢
            have hj1 : (Tp T' [.int (i : Nat), x] :: fr)[j0 + 1]? = some (Tp t ks) := hj0
            rcases (lk x hm).str? (K := K) S3 with ⟨w, rfl, hw⟩ | ⟨_, hne⟩
            · walk_at "v"
              rename_i H5 S5
              refine r_ifN (fun e0 => ?_) (fun e0 => ?_)
              · walk_at "v"
                exact hmk _ (.inr (.inl ⟨hgood, .inr (.inl ⟨_, hm, fun z => e0 (okK_str.1 z)⟩), rfl⟩)) S5.tail
              · walk_at "v"
                refine s_tup S5 hj1 (fun z => ?_) fun D H6 S6 => ?_
                · have z2 := z.2
                  rw [HT.sIx_nat] at z2
                  omega
                rw [cut_pre (by omega)] at S6
                obtain ⟨ws, hws, hkd⟩ := oks_strs hp
                rw [hws] at S6
                refine in_tups (ws := ws) (SqT.of (S6.tp (i := 0) rfl)) ?_
                refine ⟨_, rfl, ?_⟩
                refine r_ifD (c := w ∈ ws) (fun e1 => ?_) (fun e1 => ?_)
                · walk_at "v"
                  refine hmk _ (.inr (.inl ⟨hgood, .inr (.inr fun z => ?_), rfl⟩)) S6.tail.tail
                  have h1 : (ks.take (i + 1)).Nodup := z.sublist (List.take_sublist _ _)
                  rw [take_snoc hx, hws] at h1
                  exact (List.nodup_append.1 h1).2.2 _ (List.mem_map.2 ⟨w, e1, rfl⟩) _ (List.mem_singleton.2 rfl) rfl
                · walk_at "v"
                  refine ⟨_, _, _, rfl, S6.tail.tail, fun y hy => ?_, ?_⟩
                  · rw [take_snoc hx] at hy
                    rcases List.mem_append.1 hy with hy | hy
                    · exact hp y hy
                    · rw [List.mem_singleton.1 hy]; exact okK_str.2 e0
                  · rw [take_snoc hx]
                    refine List.nodup_append.2 ⟨hn, by simp, fun a ha b hb z => ?_⟩
                    rw [List.mem_singleton.1 hb] at z
                    rw [hws, z] at ha
                    obtain ⟨v, hv, ev⟩ := List.mem_map.1 ha
                    cases ev
                    exact e1 hv
            · have hty := ((lk x hm).up (A := Tp T' [.int (i : Nat), x])).str? (K := K) S4'
              rcases hty with ⟨w, rfl, _⟩ | ⟨⟨t', ht1, ht2⟩, _⟩
              · exact absurd rfl (hne w)
              walk_at "v"
              refine c_is_kindN S4' ht1 ht2 ?_
              walk_at "v"
              exact hmk _ (.inr (.inl ⟨hgood, .inr (.inl ⟨_, hm, fun ⟨_, z, _⟩ => hne _ z⟩), rfl⟩)) S4'.tail
          · rintro σ H3 ⟨a, b, c, rfl, S3, hp, hn⟩
            rw [List.take_length] at hp hn
            walk_at "v"
            refine kN (.inr (.inr ⟨hgood, ?_, rfl⟩)) _ S3
            rintro (z | ⟨y, hy, q⟩ | z)
            · exact z (by omega)
            · exact q (hp y hy)
            · exact z hn
      · walk_at "v"
        refine hmk _ (.inr (.inl ⟨hgood, .inl fun z => e0 ?_, rfl⟩)) S2
        omega
theorem x_check_rule {K : PySem.W.Frag} {A : Ad} {l : List Asn} {H : Hp} {i j : Nat} {n t : Addr} {ns ks : List V} {Q : VK} {E : XK} (S : Sep l H) (e : l[i]? = some (At n (.lst ns))) (e2 : l[j]? = some (Tp t ks)) (hn : (∃ x, ns = [x]) ∨ ∃ x y, ns = [x, y]) (ln : ∀ x ∈ ns, Lx l x) (lk : ∀ x ∈ ks, Lx l x) (hk : ks.length ≤ 900)
    (kN : Ver ns ks none → ∀ H', Sep l H' → Q .non H') (kX : ∀ w, Ver ns ks (some w) → ∀ d H', Sep (At d (.xd [("what", .str w)]) :: l) H' → E (.ref A.c_BadRule) (some d) H') : spX_check_rule K A [.ref n, .ref t] H Q E :=
  ⟨n, t, ns, ks, i, j, l, rfl, e, e2, hn, ln, lk, hk, S, kN, kX⟩
/-! Rule___init__ -/
def sp_Rule___init__ (K : PySem.W.Frag) : Sp := fun vs H Q _ => ∃ (x C t : Addr) (a b : V) (ks : List V) (fr : List Asn), vs = [.ref x, a, b, .ref t] ∧ Kl K C rNs ∧ Sep (Ob x C [] :: Tp t ks :: fr) H ∧ ∀ H', Sep (Ru x C a b ks :: fr) H' → Q .non H'
theorem ok_Rule___init__ (T : Txt K mg A) : FnOk P w K mg base CX0 1 A.f_Rule___init__ A.fd_Rule___init__ ["self", "least", "most", "kinds"] (sp_Rule___init__ K) := by
  refine T.F_Rule___init__.ok sc_Rule___init__ (fun vs H Q E h => ?_) (fun cdv A' outer s0 H vs Q E hr h => ?_)
  · obtain ⟨x, C, t, a, b, ks, fr, rfl, _⟩ := h
    rfl
  · obtain ⟨x, C, t, a, b, ks, fr, rfl, hC, S, k⟩ := h
    refine ⟨_, (pss_cons (ps_gFld (K := K) rfl (pv 0) (pv 1) rfl)
      (pss_cons (ps_gFld (K := K) rfl (pv 0) (pv 2) rfl)
      (pss_one (ps_gFld (K := K) rfl (pv 0) (pe_callTy (call_gTuple (K := K) rfl) (by rfl) T.n_tuple (by decide +kernel) (pa_cons (pv 3) pa_nil)) rfl)))), ?_⟩
    walk_at "v"
    exact k _ (ru_close (by assumption))
theorem c_Rule_init {K : PySem.W.Frag} {l : List Asn} {H : Hp} {i j : Nat} {x C t : Addr} {a b : V} {ks : List V} {Q : VK} {E : XK} (S : Sep l H) (hC : Kl K C rNs) (e : l[i]? = some (Ob x C [])) (e2 : (l.eraseIdx i)[j]? = some (Tp t ks)) (k : ∀ H', Sep (Ru x C a b ks :: (l.eraseIdx i).eraseIdx j) H' → Q .non H') : sp_Rule___init__ K [.ref x, a, b, .ref t] H Q E :=
  ⟨x, C, t, a, b, ks, _, rfl, hC, Sep.fr1' e2 (S.pick e), k⟩
local macro_rules | `(tactic| walk_at "v1") => `(tactic| ((with_reducible refine' c_Rule_init (by assumption) (by assumption) ?hi ?hj ?_); (case hi => walk_at "has"); (case hj => walk_at "has"); intro _ S; simp only [List.eraseIdx] at S))
/-! AtLeast___init__ -/
def sp_AtLeast___init__ (K : PySem.W.Frag) : Sp := fun vs H Q _ => ∃ (x C t : Addr) (n : Int) (ks : List Str) (fr : List Asn), vs = [.ref x, .int n, .ref t] ∧ Kl K C rNs ∧ 0 ≤ n ∧ n ≤ 9 ∧ Kds ks ∧ Sep (Ob x C [] :: Tp t (ks.map V.str) :: fr) H ∧ ∀ H', Sep (Ru x C (.int n) .non (ks.map V.str) :: fr) H' → Q .non H'
theorem okR_AtLeast___init__ (T : Txt K mg A) : FnR P w K mg base CX0 4 A.f_AtLeast___init__ (stSp 2 (sp_AtLeast___init__ K)) := by
  refine fun_star (ps := ["self", "least"]) (pv := "kinds") T.F_AtLeast___init__ sc_AtLeast___init__ (fun kV doc pm an cdv ct => StX.bind_star2 (B := fun vs => bindArgs (PySem.W.fnOf "__init__" "AtLeast.__init__" (defArgs s_AtLeast___init__) (defBody s_AtLeast___init__) (defScope s_AtLeast___init__) .none kV doc pm an cdv ct) ⟨vs, []⟩) (fun a b => rfl) (fun a b r rs => rfl)) (fun cdv A' outer s0 H vs Q E hr h => ?_)
  · obtain ⟨x, C, t, n, ks, fr, rfl, hC, h0, h9, hk, S, k⟩ := h
    refine ⟨_, (pss_cons (ps_expr (pe_call (ok_check_rule T) (hr.mono (by decide)) rfl T.m_check_rule T.k_check_rule T.b_check_rule .nil pass0 (pa_cons (pe_lst (pa_cons (pv 1) pa_nil)) (pa_cons (pv 2) pa_nil))))
      (pss_one (ps_expr (pe_unb (pe_glob (v := .ref A.c_Rule) rfl T.vm_Rule rfl) T.r_Rule T.u_Rule___init__ T.kp_Rule___init__ (raw0 (K := K) (ok_Rule___init__ (K := K) T) T.b_Rule___init__) (hr.mono (by decide)) pass0 (pa_cons (pv 0) (pa_cons (pv 1) (pa_cons pe_non (pa_cons (pv 2) pa_nil)))))))), ?_⟩
    have he : Ends [n] := ⟨by intro m hm; rw [List.mem_singleton.1 hm]; exact ⟨h0, h9⟩, .inl ⟨n, rfl⟩⟩
    walk_at "v"
    refine' c_check_rule (by assumption) (ns := [n]) (ks := ks) ?hi ?hj he hk ?_
    (case hi => walk_at "has")
    (case hj => walk_at "has")
    intro H2 S2
    walk_at "v"
    refine ⟨rfl, ?_⟩
    walk_at "v"
    exact k _ (Sep.dr1 (by assumption))
theorem c_AtLeast {K : PySem.W.Frag} {l : List Asn} {H : Hp} {C : Addr} {n : Int} {ks : List Str} {P : Addr → Hp → Prop} {E : XK} (S : Sep l H) (hC : Kl K C rNs) (h0 : 0 ≤ n) (h9 : n ≤ 9) (hk : Kds ks) (k : ∀ x H', Sep (Ru x C (.int n) .non (ks.map V.str) :: l) H' → P x H') :
    ∀ x dx, H x = Option.none → H dx = Option.none → dx ≠ x → stSp 2 (sp_AtLeast___init__ K) (V.ref x :: [V.int n] ++ ks.map V.str) (upd (upd H dx (.own x)) x (.ins C dx [])) (fun v H2 => v = .non ∧ P x H2) E :=
  n_make (P := fun x H' => stSp 2 (sp_AtLeast___init__ K) (V.ref x :: [V.int n] ++ ks.map V.str) H' (fun v H2 => v = .non ∧ P x H2) E) S fun x H1 S1 =>
    st_call (ws := [V.ref x, .int n]) (rest := ks.map V.str) S1 (by rw [List.length_map]; have := hk.2.1; omega) fun t H2 S2 => ⟨x, C, t, n, ks, l, rfl, hC, h0, h9, hk, S2.fr1, fun H3 S3 => ⟨rfl, k x H3 S3⟩⟩
def spX_AtLeast___init__ (K : PySem.W.Frag) (A : Ad) : Sp := fun vs H Q E => ∃ (x C t : Addr) (y : V) (ks : List V) (j : Nat) (fr : List Asn), vs = [.ref x, y, .ref t] ∧ Kl K C rNs ∧ fr[j]? = some (Tp t ks) ∧ Lx fr y ∧ (∀ v ∈ ks, Lx fr v) ∧ ks.length ≤ 900 ∧ Sep (Ob x C [] :: fr) H ∧
  (Ver [y] ks none → ∀ H', Sep (Ru x C y .non ks :: fr) H' → Q .non H') ∧ ∀ w, Ver [y] ks (some w) → ∀ d H', Sep (At d (.xd [("what", .str w)]) :: fr) H' → E (.ref A.c_BadRule) (some d) H'
theorem okXR_AtLeast___init__ (T : Txt K mg A) : FnR P w K mg base (L2.CX P w) 4 A.f_AtLeast___init__ (stSp 2 (spX_AtLeast___init__ K A)) := by
  refine fun_starX (ps := ["self", "least"]) (pv := "kinds") T.F_AtLeast___init__ sc_AtLeast___init__ (fun kV doc pm an cdv ct => StX.bind_star2 (B := fun vs => bindArgs (PySem.W.fnOf "__init__" "AtLeast.__init__" (defArgs s_AtLeast___init__) (defBody s_AtLeast___init__) (defScope s_AtLeast___init__) .none kV doc pm an cdv ct) ⟨vs, []⟩) (fun a b => rfl) (fun a b r rs => rfl)) (fun cdv A' outer s0 H vs Q E hr h => ?_)
  · obtain ⟨x, C, t, y, ks, j0, fr, rfl, hC, hj0, ly, lk, hk, S, kN, kX⟩ := h
    refine ⟨_, (pss_cons (ps_expr (pe_call (okX_check_rule T) (hr.mono (by decide)) rfl T.m_check_rule T.k_check_rule T.b_check_rule .nil (passes_call (takes_of rfl rfl rfl rfl) (fun _ _ _ _ h => h)) (pa_cons (pe_lst (pa_cons (pv 1) pa_nil)) (pa_cons (pv 2) pa_nil))))
      (pss_one (ps_expr (pe_unb (pe_glob (v := .ref A.c_Rule) rfl T.vm_Rule rfl) T.r_Rule T.u_Rule___init__ T.kp_Rule___init__ (raw0 (K := K) (ok_Rule___init__ (K := K) T) T.b_Rule___init__) (hr.mono (by decide)) pass0 (pa_cons (pv 0) (pa_cons (pv 1) (pa_cons pe_non (pa_cons (pv 2) pa_nil)))))))), ?_⟩
    walk_at "v"
    rename_i n H1 S1
    refine x_check_rule S1 has0 (hasS (hasS hj0)) (.inl ⟨_, rfl⟩) (fun v hv => by simp only [List.mem_cons, List.not_mem_nil, or_false] at hv; rcases hv with rfl <;> exact Lx.up (Lx.up (by assumption))) (fun v hv => (lk v hv).up.up) hk (fun hv H2 S2 => ?_) (fun w hv d H2 S2 => kX w hv d H2 (S2.drops [1, 1]))
    clear S S1
    have S3 := S2.addT (S2.tp (i := j0 + 2) hj0)
    clear S2
    walk_at "v"
    refine ⟨rfl, ?_⟩
    walk_at "v"
    rename_i S9
    exact kN hv _ (S9.drops [1])
theorem y_AtLeast {K : PySem.W.Frag} {A : Ad} {l : List Asn} {H : Hp} {C : Addr} {y : V} {ks : List V} {P : Addr → Hp → Prop} {E : XK} (S : Sep l H) (hC : Kl K C rNs) (ly : Lx l y) (lk : ∀ v ∈ ks, Lx l v) (hz : ks.length ≤ 900) (kN : Ver [y] ks none → ∀ x H', Sep (Ru x C y .non ks :: l) H' → P x H') (kX : ∀ w, Ver [y] ks (some w) → ∀ d H', Sep (At d (.xd [("what", .str w)]) :: l) H' → E (.ref A.c_BadRule) (some d) H') :
    ∀ x dx, H x = Option.none → H dx = Option.none → dx ≠ x → stSp 2 (spX_AtLeast___init__ K A) (V.ref x :: [y] ++ ks) (upd (upd H dx (.own x)) x (.ins C dx [])) (fun v H2 => v = .non ∧ P x H2) E :=
  n_make (P := fun x H' => stSp 2 (spX_AtLeast___init__ K A) (V.ref x :: [y] ++ ks) H' (fun v H2 => v = .non ∧ P x H2) E) S fun x H1 S1 =>
    st_call (ws := [V.ref x, y]) (rest := ks) S1 (by omega) fun t H2 S2 => ⟨x, C, t, y, ks, 0, Tp t ks :: l, rfl, hC, rfl, ly.up, fun v hv => (lk v hv).up, hz, S2.pick (i := 1) rfl, fun hv H3 S3 => ⟨rfl, kN hv x H3 (S3.drops [1])⟩, fun w hv d H3 S3 => kX w hv d H3 (S3.drops [1])⟩
theorem x_AtLeast {K : PySem.W.Frag} {A : Ad} {l : List Asn} {H : Hp} {C : Addr} {y : V} {ks : List V} {P : Addr → Hp → Prop} {E : XK} (S : Sep l H) (hC : Kl K C rNs) (ly : Lx l y) (lk : ∀ v ∈ ks, Lx l v) (hz : ks.length ≤ 900) (kN : Ver [y] ks none → ∀ x H', Sep l H' → P x H') (kX : ∀ w, Ver [y] ks (some w) → ∀ d H', Sep (At d (.xd [("what", .str w)]) :: l) H' → E (.ref A.c_BadRule) (some d) H') :
    ∀ x dx, H x = Option.none → H dx = Option.none → dx ≠ x → stSp 2 (spX_AtLeast___init__ K A) (V.ref x :: [y] ++ ks) (upd (upd H dx (.own x)) x (.ins C dx [])) (fun v H2 => v = .non ∧ P x H2) E :=
  y_AtLeast S hC ly lk hz (fun hv x H' S' => kN hv x H' S'.tail) kX
/-! AtMost___init__ -/
def sp_AtMost___init__ (K : PySem.W.Frag) : Sp := fun vs H Q _ => ∃ (x C t : Addr) (n : Int) (ks : List Str) (fr : List Asn), vs = [.ref x, .int n, .ref t] ∧ Kl K C rNs ∧ 0 ≤ n ∧ n ≤ 9 ∧ Kds ks ∧ Sep (Ob x C [] :: Tp t (ks.map V.str) :: fr) H ∧ ∀ H', Sep (Ru x C (.int 0) (.int n) (ks.map V.str) :: fr) H' → Q .non H'
theorem okR_AtMost___init__ (T : Txt K mg A) : FnR P w K mg base CX0 4 A.f_AtMost___init__ (stSp 2 (sp_AtMost___init__ K)) := by
  refine fun_star (ps := ["self", "most"]) (pv := "kinds") T.F_AtMost___init__ sc_AtMost___init__ (fun kV doc pm an cdv ct => StX.bind_star2 (B := fun vs => bindArgs (PySem.W.fnOf "__init__" "AtMost.__init__" (defArgs s_AtMost___init__) (defBody s_AtMost___init__) (defScope s_AtMost___init__) .none kV doc pm an cdv ct) ⟨vs, []⟩) (fun a b => rfl) (fun a b r rs => rfl)) (fun cdv A' outer s0 H vs Q E hr h => ?_)
  · obtain ⟨x, C, t, n, ks, fr, rfl, hC, h0, h9, hk, S, k⟩ := h
    refine ⟨_, (pss_cons (ps_expr (pe_call (ok_check_rule T) (hr.mono (by decide)) rfl T.m_check_rule T.k_check_rule T.b_check_rule .nil pass0 (pa_cons (pe_lst (pa_cons (pv 1) pa_nil)) (pa_cons (pv 2) pa_nil))))
      (pss_one (ps_expr (pe_unb (pe_glob (v := .ref A.c_Rule) rfl T.vm_Rule rfl) T.r_Rule T.u_Rule___init__ T.kp_Rule___init__ (raw0 (K := K) (ok_Rule___init__ (K := K) T) T.b_Rule___init__) (hr.mono (by decide)) pass0 (pa_cons (pv 0) (pa_cons pe_int (pa_cons (pv 1) (pa_cons (pv 2) pa_nil)))))))), ?_⟩
    have he : Ends [n] := ⟨by intro m hm; rw [List.mem_singleton.1 hm]; exact ⟨h0, h9⟩, .inl ⟨n, rfl⟩⟩
    walk_at "v"
    refine' c_check_rule (by assumption) (ns := [n]) (ks := ks) ?hi ?hj he hk ?_
    (case hi => walk_at "has")
    (case hj => walk_at "has")
    intro H2 S2
    walk_at "v"
    refine ⟨rfl, ?_⟩
    walk_at "v"
    exact k _ (Sep.dr1 (by assumption))
theorem c_AtMost {K : PySem.W.Frag} {l : List Asn} {H : Hp} {C : Addr} {n : Int} {ks : List Str} {P : Addr → Hp → Prop} {E : XK} (S : Sep l H) (hC : Kl K C rNs) (h0 : 0 ≤ n) (h9 : n ≤ 9) (hk : Kds ks) (k : ∀ x H', Sep (Ru x C (.int 0) (.int n) (ks.map V.str) :: l) H' → P x H') :
    ∀ x dx, H x = Option.none → H dx = Option.none → dx ≠ x → stSp 2 (sp_AtMost___init__ K) (V.ref x :: [V.int n] ++ ks.map V.str) (upd (upd H dx (.own x)) x (.ins C dx [])) (fun v H2 => v = .non ∧ P x H2) E :=
  n_make (P := fun x H' => stSp 2 (sp_AtMost___init__ K) (V.ref x :: [V.int n] ++ ks.map V.str) H' (fun v H2 => v = .non ∧ P x H2) E) S fun x H1 S1 =>
    st_call (ws := [V.ref x, .int n]) (rest := ks.map V.str) S1 (by rw [List.length_map]; have := hk.2.1; omega) fun t H2 S2 => ⟨x, C, t, n, ks, l, rfl, hC, h0, h9, hk, S2.fr1, fun H3 S3 => ⟨rfl, k x H3 S3⟩⟩
def spX_AtMost___init__ (K : PySem.W.Frag) (A : Ad) : Sp := fun vs H Q E => ∃ (x C t : Addr) (y : V) (ks : List V) (j : Nat) (fr : List Asn), vs = [.ref x, y, .ref t] ∧ Kl K C rNs ∧ fr[j]? = some (Tp t ks) ∧ Lx fr y ∧ (∀ v ∈ ks, Lx fr v) ∧ ks.length ≤ 900 ∧ Sep (Ob x C [] :: fr) H ∧
  (Ver [y] ks none → ∀ H', Sep (Ru x C (.int 0) y ks :: fr) H' → Q .non H') ∧ ∀ w, Ver [y] ks (some w) → ∀ d H', Sep (At d (.xd [("what", .str w)]) :: fr) H' → E (.ref A.c_BadRule) (some d) H'
theorem okXR_AtMost___init__ (T : Txt K mg A) : FnR P w K mg base (L2.CX P w) 4 A.f_AtMost___init__ (stSp 2 (spX_AtMost___init__ K A)) := by
  refine fun_starX (ps := ["self", "most"]) (pv := "kinds") T.F_AtMost___init__ sc_AtMost___init__ (fun kV doc pm an cdv ct => StX.bind_star2 (B := fun vs => bindArgs (PySem.W.fnOf "__init__" "AtMost.__init__" (defArgs s_AtMost___init__) (defBody s_AtMost___init__) (defScope s_AtMost___init__) .none kV doc pm an cdv ct) ⟨vs, []⟩) (fun a b => rfl) (fun a b r rs => rfl)) (fun cdv A' outer s0 H vs Q E hr h => ?_)
  · obtain ⟨x, C, t, y, ks, j0, fr, rfl, hC, hj0, ly, lk, hk, S, kN, kX⟩ := h
    refine ⟨_, (pss_cons (ps_expr (pe_call (okX_check_rule T) (hr.mono (by decide)) rfl T.m_check_rule T.k_check_rule T.b_check_rule .nil (passes_call (takes_of rfl rfl rfl rfl) (fun _ _ _ _ h => h)) (pa_cons (pe_lst (pa_cons (pv 1) pa_nil)) (pa_cons (pv 2) pa_nil))))
      (pss_one (ps_expr (pe_unb (pe_glob (v := .ref A.c_Rule) rfl T.vm_Rule rfl) T.r_Rule T.u_Rule___init__ T.kp_Rule___init__ (raw0 (K := K) (ok_Rule___init__ (K := K) T) T.b_Rule___init__) (hr.mono (by decide)) pass0 (pa_cons (pv 0) (pa_cons pe_int (pa_cons (pv 1) (pa_cons (pv 2) pa_nil)))))))), ?_⟩
    walk_at "v"
    rename_i n H1 S1
    refine x_check_rule S1 has0 (hasS (hasS hj0)) (.inl ⟨_, rfl⟩) (fun v hv => by simp only [List.mem_cons, List.not_mem_nil, or_false] at hv; rcases hv with rfl <;> exact Lx.up (Lx.up (by assumption))) (fun v hv => (lk v hv).up.up) hk (fun hv H2 S2 => ?_) (fun w hv d H2 S2 => kX w hv d H2 (S2.drops [1, 1]))
    clear S S1
    have S3 := S2.addT (S2.tp (i := j0 + 2) hj0)
    clear S2
    walk_at "v"
    refine ⟨rfl, ?_⟩
    walk_at "v"
    rename_i S9
    exact kN hv _ (S9.drops [1])
theorem y_AtMost {K : PySem.W.Frag} {A : Ad} {l : List Asn} {H : Hp} {C : Addr} {y : V} {ks : List V} {P : Addr → Hp → Prop} {E : XK} (S : Sep l H) (hC : Kl K C rNs) (ly : Lx l y) (lk : ∀ v ∈ ks, Lx l v) (hz : ks.length ≤ 900) (kN : Ver [y] ks none → ∀ x H', Sep (Ru x C (.int 0) y ks :: l) H' → P x H') (kX : ∀ w, Ver [y] ks (some w) → ∀ d H', Sep (At d (.xd [("what", .str w)]) :: l) H' → E (.ref A.c_BadRule) (some d) H') :
    ∀ x dx, H x = Option.none → H dx = Option.none → dx ≠ x → stSp 2 (spX_AtMost___init__ K A) (V.ref x :: [y] ++ ks) (upd (upd H dx (.own x)) x (.ins C dx [])) (fun v H2 => v = .non ∧ P x H2) E :=
  n_make (P := fun x H' => stSp 2 (spX_AtMost___init__ K A) (V.ref x :: [y] ++ ks) H' (fun v H2 => v = .non ∧ P x H2) E) S fun x H1 S1 =>
    st_call (ws := [V.ref x, y]) (rest := ks) S1 (by omega) fun t H2 S2 => ⟨x, C, t, y, ks, 0, Tp t ks :: l, rfl, hC, rfl, ly.up, fun v hv => (lk v hv).up, hz, S2.pick (i := 1) rfl, fun hv H3 S3 => ⟨rfl, kN hv x H3 (S3.drops [1])⟩, fun w hv d H3 S3 => kX w hv d H3 (S3.drops [1])⟩
theorem x_AtMost {K : PySem.W.Frag} {A : Ad} {l : List Asn} {H : Hp} {C : Addr} {y : V} {ks : List V} {P : Addr → Hp → Prop} {E : XK} (S : Sep l H) (hC : Kl K C rNs) (ly : Lx l y) (lk : ∀ v ∈ ks, Lx l v) (hz : ks.length ≤ 900) (kN : Ver [y] ks none → ∀ x H', Sep l H' → P x H') (kX : ∀ w, Ver [y] ks (some w) → ∀ d H', Sep (At d (.xd [("what", .str w)]) :: l) H' → E (.ref A.c_BadRule) (some d) H') :
    ∀ x dx, H x = Option.none → H dx = Option.none → dx ≠ x → stSp 2 (spX_AtMost___init__ K A) (V.ref x :: [y] ++ ks) (upd (upd H dx (.own x)) x (.ins C dx [])) (fun v H2 => v = .non ∧ P x H2) E :=
  y_AtMost S hC ly lk hz (fun hv x H' S' => kN hv x H' S'.tail) kX
/-! Between___init__ -/
def sp_Between___init__ (K : PySem.W.Frag) : Sp := fun vs H Q _ => ∃ (x C t : Addr) (n m : Int) (ks : List Str) (fr : List Asn), vs = [.ref x, .int n, .int m, .ref t] ∧ Kl K C rNs ∧ (0 ≤ n ∧ n ≤ m ∧ m ≤ 9) ∧ Kds ks ∧ Sep (Ob x C [] :: Tp t (ks.map V.str) :: fr) H ∧ ∀ H', Sep (Ru x C (.int n) (.int m) (ks.map V.str) :: fr) H' → Q .non H'
theorem okR_Between___init__ (T : Txt K mg A) : FnR P w K mg base CX0 4 A.f_Between___init__ (stSp 3 (sp_Between___init__ K)) := by
  refine fun_star (ps := ["self", "least", "most"]) (pv := "kinds") T.F_Between___init__ sc_Between___init__ (fun kV doc pm an cdv ct => StX.bind_star3 (B := fun vs => bindArgs (PySem.W.fnOf "__init__" "Between.__init__" (defArgs s_Between___init__) (defBody s_Between___init__) (defScope s_Between___init__) .none kV doc pm an cdv ct) ⟨vs, []⟩) (fun a b c => rfl) (fun a b c r rs => rfl)) (fun cdv A' outer s0 H vs Q E hr h => ?_)
  · obtain ⟨x, C, t, n, m, ks, fr, rfl, hC, hb, hk, S, k⟩ := h
    refine ⟨_, (pss_cons (ps_expr (pe_call (ok_check_rule T) (hr.mono (by decide)) rfl T.m_check_rule T.k_check_rule T.b_check_rule .nil pass0 (pa_cons (pe_lst (pa_cons (pv 1) (pa_cons (pv 2) pa_nil))) (pa_cons (pv 3) pa_nil))))
      (pss_cons (ps_gFld (K := K) rfl (pv 0) (pv 1) rfl)
      (pss_cons (ps_gFld (K := K) rfl (pv 0) (pv 2) rfl)
      (pss_one (ps_gFld (K := K) rfl (pv 0) (pe_callTy (call_gTuple (K := K) rfl) (by rfl) T.n_tuple (by decide +kernel) (pa_cons (pv 3) pa_nil)) rfl))))), ?_⟩
    have he : Ends [n, m] := ⟨by intro z hz; simp only [List.mem_cons, List.not_mem_nil, or_false] at hz; rcases hz with rfl | rfl <;> omega, .inr ⟨n, m, rfl, hb.2.1⟩⟩
    walk_at "v"
    refine' c_check_rule (by assumption) (ns := [n, m]) (ks := ks) ?hi ?hj he hk ?_
    (case hi => walk_at "has")
    (case hj => walk_at "has")
    intro H2 S2
    walk_at "v"
    exact k _ (ru_close (Sep.tail (by assumption)))
theorem c_Between {K : PySem.W.Frag} {l : List Asn} {H : Hp} {C : Addr} {n m : Int} {ks : List Str} {P : Addr → Hp → Prop} {E : XK} (S : Sep l H) (hC : Kl K C rNs) (hb : 0 ≤ n ∧ n ≤ m ∧ m ≤ 9) (hk : Kds ks) (k : ∀ x H', Sep (Ru x C (.int n) (.int m) (ks.map V.str) :: l) H' → P x H') :
    ∀ x dx, H x = Option.none → H dx = Option.none → dx ≠ x → stSp 3 (sp_Between___init__ K) (V.ref x :: [V.int n, V.int m] ++ ks.map V.str) (upd (upd H dx (.own x)) x (.ins C dx [])) (fun v H2 => v = .non ∧ P x H2) E :=
  n_make (P := fun x H' => stSp 3 (sp_Between___init__ K) (V.ref x :: [V.int n, V.int m] ++ ks.map V.str) H' (fun v H2 => v = .non ∧ P x H2) E) S fun x H1 S1 =>
    st_call (ws := [V.ref x, .int n, .int m]) (rest := ks.map V.str) S1 (by rw [List.length_map]; have := hk.2.1; omega) fun t H2 S2 => ⟨x, C, t, n, m, ks, l, rfl, hC, hb, hk, S2.fr1, fun H3 S3 => ⟨rfl, k x H3 S3⟩⟩
def spX_Between___init__ (K : PySem.W.Frag) (A : Ad) : Sp := fun vs H Q E => ∃ (x C t : Addr) (y z : V) (ks : List V) (j : Nat) (fr : List Asn), vs = [.ref x, y, z, .ref t] ∧ Kl K C rNs ∧ fr[j]? = some (Tp t ks) ∧ Lx fr y ∧ Lx fr z ∧ (∀ v ∈ ks, Lx fr v) ∧ ks.length ≤ 900 ∧ Sep (Ob x C [] :: fr) H ∧
  (Ver [y, z] ks none → ∀ H', Sep (Ru x C y z ks :: fr) H' → Q .non H') ∧ ∀ w, Ver [y, z] ks (some w) → ∀ d H', Sep (At d (.xd [("what", .str w)]) :: fr) H' → E (.ref A.c_BadRule) (some d) H'
theorem okXR_Between___init__ (T : Txt K mg A) : FnR P w K mg base (L2.CX P w) 4 A.f_Between___init__ (stSp 3 (spX_Between___init__ K A)) := by
  refine fun_starX (ps := ["self", "least", "most"]) (pv := "kinds") T.F_Between___init__ sc_Between___init__ (fun kV doc pm an cdv ct => StX.bind_star3 (B := fun vs => bindArgs (PySem.W.fnOf "__init__" "Between.__init__" (defArgs s_Between___init__) (defBody s_Between___init__) (defScope s_Between___init__) .none kV doc pm an cdv ct) ⟨vs, []⟩) (fun a b c => rfl) (fun a b c r rs => rfl)) (fun cdv A' outer s0 H vs Q E hr h => ?_)
  · obtain ⟨x, C, t, y, z, ks, j0, fr, rfl, hC, hj0, ly, lz, lk, hk, S, kN, kX⟩ := h
    refine ⟨_, (pss_cons (ps_expr (pe_call (okX_check_rule T) (hr.mono (by decide)) rfl T.m_check_rule T.k_check_rule T.b_check_rule .nil (passes_call (takes_of rfl rfl rfl rfl) (fun _ _ _ _ h => h)) (pa_cons (pe_lst (pa_cons (pv 1) (pa_cons (pv 2) pa_nil))) (pa_cons (pv 3) pa_nil))))
      (pss_cons (ps_gFld (K := K) rfl (pv 0) (pv 1) rfl)
      (pss_cons (ps_gFld (K := K) rfl (pv 0) (pv 2) rfl)
      (pss_one (ps_gFld (K := K) rfl (pv 0) (pe_callTy (call_gTuple (K := K) rfl) (by rfl) T.n_tuple (by decide +kernel) (pa_cons (pv 3) pa_nil)) rfl))))), ?_⟩
    walk_at "v"
    rename_i n H1 S1
    refine x_check_rule S1 has0 (hasS (hasS hj0)) (.inr ⟨_, _, rfl⟩) (fun v hv => by simp only [List.mem_cons, List.not_mem_nil, or_false] at hv; rcases hv with rfl | rfl <;> exact Lx.up (Lx.up (by assumption))) (fun v hv => (lk v hv).up.up) hk (fun hv H2 S2 => ?_) (fun w hv d H2 S2 => kX w hv d H2 (S2.drops [1, 1]))
    clear S S1
    have S3 := S2.addT (S2.tp (i := j0 + 2) hj0)
    clear S2
    walk_at "v"
    rename_i S9
    exact kN hv _ (ru_close ((S9.reord [2]).drops [2]))
theorem y_Between {K : PySem.W.Frag} {A : Ad} {l : List Asn} {H : Hp} {C : Addr} {y z : V} {ks : List V} {P : Addr → Hp → Prop} {E : XK} (S : Sep l H) (hC : Kl K C rNs) (ly : Lx l y) (lz : Lx l z) (lk : ∀ v ∈ ks, Lx l v) (hz : ks.length ≤ 900) (kN : Ver [y, z] ks none → ∀ x H', Sep (Ru x C y z ks :: l) H' → P x H') (kX : ∀ w, Ver [y, z] ks (some w) → ∀ d H', Sep (At d (.xd [("what", .str w)]) :: l) H' → E (.ref A.c_BadRule) (some d) H') :
    ∀ x dx, H x = Option.none → H dx = Option.none → dx ≠ x → stSp 3 (spX_Between___init__ K A) (V.ref x :: [y, z] ++ ks) (upd (upd H dx (.own x)) x (.ins C dx [])) (fun v H2 => v = .non ∧ P x H2) E :=
  n_make (P := fun x H' => stSp 3 (spX_Between___init__ K A) (V.ref x :: [y, z] ++ ks) H' (fun v H2 => v = .non ∧ P x H2) E) S fun x H1 S1 =>
    st_call (ws := [V.ref x, y, z]) (rest := ks) S1 (by omega) fun t H2 S2 => ⟨x, C, t, y, z, ks, 0, Tp t ks :: l, rfl, hC, rfl, ly.up, lz.up, fun v hv => (lk v hv).up, hz, S2.pick (i := 1) rfl, fun hv H3 S3 => ⟨rfl, kN hv x H3 (S3.drops [1])⟩, fun w hv d H3 S3 => kX w hv d H3 (S3.drops [1])⟩
theorem x_Between {K : PySem.W.Frag} {A : Ad} {l : List Asn} {H : Hp} {C : Addr} {y z : V} {ks : List V} {P : Addr → Hp → Prop} {E : XK} (S : Sep l H) (hC : Kl K C rNs) (ly : Lx l y) (lz : Lx l z) (lk : ∀ v ∈ ks, Lx l v) (hz : ks.length ≤ 900) (kN : Ver [y, z] ks none → ∀ x H', Sep l H' → P x H') (kX : ∀ w, Ver [y, z] ks (some w) → ∀ d H', Sep (At d (.xd [("what", .str w)]) :: l) H' → E (.ref A.c_BadRule) (some d) H') :
    ∀ x dx, H x = Option.none → H dx = Option.none → dx ≠ x → stSp 3 (spX_Between___init__ K A) (V.ref x :: [y, z] ++ ks) (upd (upd H dx (.own x)) x (.ins C dx [])) (fun v H2 => v = .non ∧ P x H2) E :=
  y_Between S hC ly lz lk hz (fun hv x H' S' => kN hv x H' S'.tail) kX
/-! Exactly___init__ -/
def sp_Exactly___init__ (K : PySem.W.Frag) : Sp := fun vs H Q _ => ∃ (x C t : Addr) (n : Int) (ks : List Str) (fr : List Asn), vs = [.ref x, .int n, .ref t] ∧ Kl K C rNs ∧ (0 ≤ n ∧ n ≤ 9) ∧ Kds ks ∧ Sep (Ob x C [] :: Tp t (ks.map V.str) :: fr) H ∧ ∀ H', Sep (Ru x C (.int n) (.int n) (ks.map V.str) :: fr) H' → Q .non H'
theorem okR_Exactly___init__ (T : Txt K mg A) : FnR P w K mg base CX0 4 A.f_Exactly___init__ (stSp 2 (sp_Exactly___init__ K)) := by
  refine fun_star (ps := ["self", "number"]) (pv := "kinds") T.F_Exactly___init__ sc_Exactly___init__ (fun kV doc pm an cdv ct => StX.bind_star2 (B := fun vs => bindArgs (PySem.W.fnOf "__init__" "Exactly.__init__" (defArgs s_Exactly___init__) (defBody s_Exactly___init__) (defScope s_Exactly___init__) .none kV doc pm an cdv ct) ⟨vs, []⟩) (fun a b => rfl) (fun a b r rs => rfl)) (fun cdv A' outer s0 H vs Q E hr h => ?_)
  · obtain ⟨x, C, t, n, ks, fr, rfl, hC, hb, hk, S, k⟩ := h
    refine ⟨_, (pss_cons (ps_expr (pe_call (ok_check_rule T) (hr.mono (by decide)) rfl T.m_check_rule T.k_check_rule T.b_check_rule .nil pass0 (pa_cons (pe_lst (pa_cons (pv 1) pa_nil)) (pa_cons (pv 2) pa_nil))))
      (pss_cons (ps_gFld (K := K) rfl (pv 0) (pv 1) rfl)
      (pss_cons (ps_gFld (K := K) rfl (pv 0) (pv 1) rfl)
      (pss_one (ps_gFld (K := K) rfl (pv 0) (pe_callTy (call_gTuple (K := K) rfl) (by rfl) T.n_tuple (by decide +kernel) (pa_cons (pv 2) pa_nil)) rfl))))), ?_⟩
    have he : Ends [n] := ⟨by intro z hz; rw [List.mem_singleton.1 hz]; omega, .inl ⟨n, rfl⟩⟩
    walk_at "v"
    refine' c_check_rule (by assumption) (ns := [n]) (ks := ks) ?hi ?hj he hk ?_
    (case hi => walk_at "has")
    (case hj => walk_at "has")
    intro H2 S2
    walk_at "v"
    exact k _ (ru_close (Sep.tail (by assumption)))
theorem c_Exactly {K : PySem.W.Frag} {l : List Asn} {H : Hp} {C : Addr} {n : Int} {ks : List Str} {P : Addr → Hp → Prop} {E : XK} (S : Sep l H) (hC : Kl K C rNs) (hb : 0 ≤ n ∧ n ≤ 9) (hk : Kds ks) (k : ∀ x H', Sep (Ru x C (.int n) (.int n) (ks.map V.str) :: l) H' → P x H') :
    ∀ x dx, H x = Option.none → H dx = Option.none → dx ≠ x → stSp 2 (sp_Exactly___init__ K) (V.ref x :: [V.int n] ++ ks.map V.str) (upd (upd H dx (.own x)) x (.ins C dx [])) (fun v H2 => v = .non ∧ P x H2) E :=
  n_make (P := fun x H' => stSp 2 (sp_Exactly___init__ K) (V.ref x :: [V.int n] ++ ks.map V.str) H' (fun v H2 => v = .non ∧ P x H2) E) S fun x H1 S1 =>
    st_call (ws := [V.ref x, .int n]) (rest := ks.map V.str) S1 (by rw [List.length_map]; have := hk.2.1; omega) fun t H2 S2 => ⟨x, C, t, n, ks, l, rfl, hC, hb, hk, S2.fr1, fun H3 S3 => ⟨rfl, k x H3 S3⟩⟩
def spX_Exactly___init__ (K : PySem.W.Frag) (A : Ad) : Sp := fun vs H Q E => ∃ (x C t : Addr) (y : V) (ks : List V) (j : Nat) (fr : List Asn), vs = [.ref x, y, .ref t] ∧ Kl K C rNs ∧ fr[j]? = some (Tp t ks) ∧ Lx fr y ∧ (∀ v ∈ ks, Lx fr v) ∧ ks.length ≤ 900 ∧ Sep (Ob x C [] :: fr) H ∧
  (Ver [y] ks none → ∀ H', Sep (Ru x C y y ks :: fr) H' → Q .non H') ∧ ∀ w, Ver [y] ks (some w) → ∀ d H', Sep (At d (.xd [("what", .str w)]) :: fr) H' → E (.ref A.c_BadRule) (some d) H'
theorem okXR_Exactly___init__ (T : Txt K mg A) : FnR P w K mg base (L2.CX P w) 4 A.f_Exactly___init__ (stSp 2 (spX_Exactly___init__ K A)) := by
  refine fun_starX (ps := ["self", "number"]) (pv := "kinds") T.F_Exactly___init__ sc_Exactly___init__ (fun kV doc pm an cdv ct => StX.bind_star2 (B := fun vs => bindArgs (PySem.W.fnOf "__init__" "Exactly.__init__" (defArgs s_Exactly___init__) (defBody s_Exactly___init__) (defScope s_Exactly___init__) .none kV doc pm an cdv ct) ⟨vs, []⟩) (fun a b => rfl) (fun a b r rs => rfl)) (fun cdv A' outer s0 H vs Q E hr h => ?_)
  · obtain ⟨x, C, t, y, ks, j0, fr, rfl, hC, hj0, ly, lk, hk, S, kN, kX⟩ := h
    refine ⟨_, (pss_cons (ps_expr (pe_call (okX_check_rule T) (hr.mono (by decide)) rfl T.m_check_rule T.k_check_rule T.b_check_rule .nil (passes_call (takes_of rfl rfl rfl rfl) (fun _ _ _ _ h => h)) (pa_cons (pe_lst (pa_cons (pv 1) pa_nil)) (pa_cons (pv 2) pa_nil))))
      (pss_cons (ps_gFld (K := K) rfl (pv 0) (pv 1) rfl)
      (pss_cons (ps_gFld (K := K) rfl (pv 0) (pv 1) rfl)
      (pss_one (ps_gFld (K := K) rfl (pv 0) (pe_callTy (call_gTuple (K := K) rfl) (by rfl) T.n_tuple (by decide +kernel) (pa_cons (pv 2) pa_nil)) rfl))))), ?_⟩
    walk_at "v"
    rename_i n H1 S1
    refine x_check_rule S1 has0 (hasS (hasS hj0)) (.inl ⟨_, rfl⟩) (fun v hv => by simp only [List.mem_cons, List.not_mem_nil, or_false] at hv; rcases hv with rfl <;> exact Lx.up (Lx.up (by assumption))) (fun v hv => (lk v hv).up.up) hk (fun hv H2 S2 => ?_) (fun w hv d H2 S2 => kX w hv d H2 (S2.drops [1, 1]))
    clear S S1
    have S3 := S2.addT (S2.tp (i := j0 + 2) hj0)
    clear S2
    walk_at "v"
    rename_i S9
    exact kN hv _ (ru_close ((S9.reord [2]).drops [2]))
theorem y_Exactly {K : PySem.W.Frag} {A : Ad} {l : List Asn} {H : Hp} {C : Addr} {y : V} {ks : List V} {P : Addr → Hp → Prop} {E : XK} (S : Sep l H) (hC : Kl K C rNs) (ly : Lx l y) (lk : ∀ v ∈ ks, Lx l v) (hz : ks.length ≤ 900) (kN : Ver [y] ks none → ∀ x H', Sep (Ru x C y y ks :: l) H' → P x H') (kX : ∀ w, Ver [y] ks (some w) → ∀ d H', Sep (At d (.xd [("what", .str w)]) :: l) H' → E (.ref A.c_BadRule) (some d) H') :
    ∀ x dx, H x = Option.none → H dx = Option.none → dx ≠ x → stSp 2 (spX_Exactly___init__ K A) (V.ref x :: [y] ++ ks) (upd (upd H dx (.own x)) x (.ins C dx [])) (fun v H2 => v = .non ∧ P x H2) E :=
  n_make (P := fun x H' => stSp 2 (spX_Exactly___init__ K A) (V.ref x :: [y] ++ ks) H' (fun v H2 => v = .non ∧ P x H2) E) S fun x H1 S1 =>
    st_call (ws := [V.ref x, y]) (rest := ks) S1 (by omega) fun t H2 S2 => ⟨x, C, t, y, ks, 0, Tp t ks :: l, rfl, hC, rfl, ly.up, fun v hv => (lk v hv).up, hz, S2.pick (i := 1) rfl, fun hv H3 S3 => ⟨rfl, kN hv x H3 (S3.drops [1])⟩, fun w hv d H3 S3 => kX w hv d H3 (S3.drops [1])⟩
theorem x_Exactly {K : PySem.W.Frag} {A : Ad} {l : List Asn} {H : Hp} {C : Addr} {y : V} {ks : List V} {P : Addr → Hp → Prop} {E : XK} (S : Sep l H) (hC : Kl K C rNs) (ly : Lx l y) (lk : ∀ v ∈ ks, Lx l v) (hz : ks.length ≤ 900) (kN : Ver [y] ks none → ∀ x H', Sep l H' → P x H') (kX : ∀ w, Ver [y] ks (some w) → ∀ d H', Sep (At d (.xd [("what", .str w)]) :: l) H' → E (.ref A.c_BadRule) (some d) H') :
    ∀ x dx, H x = Option.none → H dx = Option.none → dx ≠ x → stSp 2 (spX_Exactly___init__ K A) (V.ref x :: [y] ++ ks) (upd (upd H dx (.own x)) x (.ins C dx [])) (fun v H2 => v = .non ∧ P x H2) E :=
  y_Exactly S hC ly lk hz (fun hv x H' S' => kN hv x H' S'.tail) kX
/-! read_rule -/
/-- the tokens of a written rule -/
def toks : Nat → Nat → Nat → List Str → List Str
  | 0, a, _, ks => "at" :: "least" :: dig a :: inter ks
  | 1, _, b, ks => "at" :: "most" :: dig b :: inter ks
  | 2, a, b, ks => "from" :: dig a :: "to" :: dig b :: inter ks
  | _ + 3, a, _, ks => "exactly" :: dig a :: inter ks
def wnums : Nat → Nat → Nat → List V
  | 0, a, _ => [.int a]
  | 1, _, b => [.int b]
  | 2, a, b => [.int a, .int b]
  | _ + 3, a, _ => [.int a]
def RuW (A : Ad) (x : Addr) (a b : Nat) (ks : List V) : Nat → Asn
  | 0 => Ru x A.c_AtLeast (.int a) .non ks
  | 1 => Ru x A.c_AtMost (.int 0) (.int b) ks
  | 2 => Ru x A.c_Between (.int a) (.int b) ks
  | _ + 3 => Ru x A.c_Exactly (.int a) (.int a) ks
def Wr (ts : List Str) (m a b : Nat) (ks : List Str) : Prop := m < 4 ∧ a < 10 ∧ b < 10 ∧ ts = toks m a b ks ∧ ks ≠ [] ∧ ∀ w ∈ ks, Wd w
theorem dg_dig {t : Str} (h : Dg t) : ∃ n, n < 10 ∧ t = dig n := by
  obtain ⟨c, rfl⟩ := one_sign h.1
  have := h.2 c List.mem_cons_self
  exact ⟨c - 48, by omega, by unfold dig; rw [show 48 + (c - 48) = c by omega]⟩
theorem dig_dg {n : Nat} (h : n < 10) : Dg (dig n) := ⟨rfl, fun c hc => by rw [List.mem_singleton.1 hc]; omega⟩
theorem dig_inj {n m : Nat} (h : dig n = dig m) : n = m := by
  have h2 : #[48 + n] = #[48 + m] := congrArg Str.cps h
  have h3 : [48 + n] = [48 + m] := congrArg Array.toList h2
  have := (List.cons.inj h3).1
  omega
theorem bgn_cons {ts fs : List Str} {f : Str} (h : bgn ts (f :: fs) = true) : ∃ t rest, ts = t :: rest ∧ bgn1 t f = true ∧ bgn rest fs = true := by
  cases ts with
  | nil => exact (Bool.false_ne_true h).elim
  | cons t rest =>
    have h' := (Bool.and_eq_true _ _).mp h
    exact ⟨t, rest, rfl, h'.1, h'.2⟩
theorem bgn1_w {t f : Str} (hf : f ≠ "#") (h : bgn1 t f = true) : t = f := by
  unfold bgn1 at h
  rw [if_neg hf] at h
  exact of_decide_eq_true h
theorem bgn1_d {t : Str} (h : bgn1 t "#" = true) : ∃ n, n < 10 ∧ t = dig n := by
  unfold bgn1 at h
  rw [if_pos rfl] at h
  exact dg_dig (of_decide_eq_true h)
theorem bgn1_wt {f : Str} (hf : f ≠ "#") : bgn1 f f = true := by
  unfold bgn1
  rw [if_neg hf]
  exact decide_eq_true rfl
theorem bgn1_dt {n : Nat} (h : n < 10) : bgn1 (dig n) "#" = true := by
  unfold bgn1
  rw [if_pos rfl]
  exact decide_eq_true (dig_dg h)
theorem wne1 : ("at" : Str) ≠ "#" := by decide +kernel
theorem wne2 : ("least" : Str) ≠ "#" := by decide +kernel
theorem wne3 : ("most" : Str) ≠ "#" := by decide +kernel
theorem wne4 : ("from" : Str) ≠ "#" := by decide +kernel
theorem wne5 : ("to" : Str) ≠ "#" := by decide +kernel
theorem wne6 : ("exactly" : Str) ≠ "#" := by decide +kernel
theorem wd1 : ("at" : Str) ≠ "from" := by decide +kernel
theorem wd2 : ("at" : Str) ≠ "exactly" := by decide +kernel
theorem wd3 : ("least" : Str) ≠ "most" := by decide +kernel
theorem wd4 : ("from" : Str) ≠ "exactly" := by decide +kernel
theorem wr_at {s : Str} {r : List Str} {m a b : Nat} {ks : List Str} (h : Wr ("at" :: s :: r) m a b ks) : (m = 0 ∧ s = "least" ∧ r = dig a :: inter ks) ∨ (m = 1 ∧ s = "most" ∧ r = dig b :: inter ks) := by
  obtain ⟨h4, _, _, e, _⟩ := h
  match m, h4, e with
  | 0, _, e =>
    have e1 := List.cons.inj (List.cons.inj e).2
    exact .inl ⟨rfl, e1.1, e1.2⟩
  | 1, _, e =>
    have e1 := List.cons.inj (List.cons.inj e).2
    exact .inr ⟨rfl, e1.1, e1.2⟩
  | 2, _, e => exact (wd1 (List.cons.inj e).1).elim
  | 3, _, e => exact (wd2 (List.cons.inj e).1).elim
theorem wr_from {r : List Str} {m a b : Nat} {ks : List Str} (h : Wr ("from" :: r) m a b ks) : m = 2 ∧ r = dig a :: "to" :: dig b :: inter ks := by
  obtain ⟨h4, _, _, e, _⟩ := h
  match m, h4, e with
  | 0, _, e => exact (wd1 (List.cons.inj e).1.symm).elim
  | 1, _, e => exact (wd1 (List.cons.inj e).1.symm).elim
  | 2, _, e => exact ⟨rfl, (List.cons.inj e).2⟩
  | 3, _, e => exact (wd4 (List.cons.inj e).1).elim
theorem wr_ex {r : List Str} {m a b : Nat} {ks : List Str} (h : Wr ("exactly" :: r) m a b ks) : m = 3 ∧ r = dig a :: inter ks := by
  obtain ⟨h4, _, _, e, _⟩ := h
  match m, h4, e with
  | 0, _, e => exact (wd2 (List.cons.inj e).1.symm).elim
  | 1, _, e => exact (wd2 (List.cons.inj e).1.symm).elim
  | 2, _, e => exact (wd4 (List.cons.inj e).1.symm).elim
  | 3, _, e => exact ⟨rfl, (List.cons.inj e).2⟩
theorem wr_btw {ts r : List Str} {m a b : Nat} {ks : List Str} (h : Wr ts m a b ks) (e : r = inter ks) : Btw r ks := ⟨e, h.2.2.2.2.1, h.2.2.2.2.2⟩
/-- what begins as none of the forms is no rule -/
theorem wr_bgn {ts : List Str} {m a b : Nat} {ks : List Str} (h : Wr ts m a b ks) : bgn ts ["at", "least", "#"] = true ∨ bgn ts ["at", "most", "#"] = true ∨ bgn ts ["from", "#", "to", "#"] = true ∨ bgn ts ["exactly", "#"] = true := by
  obtain ⟨h4, ha, hb, rfl, _⟩ := h
  match m, h4 with
  | 0, _ =>
    refine .inl ?_
    simp [toks, bgn, bgn1_wt wne1, bgn1_wt wne2, bgn1_dt ha]
  | 1, _ =>
    refine .inr (.inl ?_)
    simp [toks, bgn, bgn1_wt wne1, bgn1_wt wne3, bgn1_dt hb]
  | 2, _ =>
    refine .inr (.inr (.inl ?_))
    simp [toks, bgn, bgn1_wt wne4, bgn1_wt wne5, bgn1_dt ha, bgn1_dt hb]
  | 3, _ =>
    refine .inr (.inr (.inr ?_))
    simp [toks, bgn, bgn1_wt wne6, bgn1_dt ha]
theorem cut_from {xs : List V} {k : Nat} (h : k ≤ xs.length) : cutV xs (some (k : Int)) none = xs.drop k := by
  unfold cutV
  rw [HT.sIx_nat, HT.sIx_none, Nat.min_eq_left h, List.take_of_length_le (by rw [List.length_drop]; omega)]
theorem at_natR {xs : List V} {i : Nat} {v : V} (h : xs[i]? = some v) : atI xs (i : Int) = some v := by
  unfold atI
  rw [ixN_in (by omega) (by have := get_lt h; omega)]
  exact h
/-- what reading the tokens comes to -/
structure RdW (A : Ad) (fr : List Asn) (Q : VK) (E : XK) (ts : List Str) : Prop where
  n : ∀ m a b ks, Wr ts m a b ks → Ver (wnums m a b) (ks.map V.str) none → ∀ y H', Sep (RuW A y a b (ks.map V.str) m :: fr) H' → Q (.ref y) H'
  x : ∀ m a b ks, Wr ts m a b ks → ∀ v, Ver (wnums m a b) (ks.map V.str) (some v) → ∀ d H', Sep (At d (.xd [("what", .str v)]) :: fr) H' → E (.ref A.c_BadRule) (some d) H'
  t : (¬ ∃ m a b ks, Wr ts m a b ks) → ∀ d H', Sep (At d (.xd [("what", .str "text")]) :: fr) H' → E (.ref A.c_BadRule) (some d) H'
def spX_read_rule (K : PySem.W.Frag) (A : Ad) : Sp := fun vs H Q E => ∃ (x : V) (fr : List Asn), vs = [x] ∧ Sep fr H ∧ ((∃ w : Str, x = .str w ∧ w.length ≤ 800 ∧ RdW A fr Q E (Txt.split w ⟨#[32]⟩)) ∨
  ∃ t, TyX K H x t ∧ PySem.W.kitOne K t (.type "str") = some false ∧ RdW A fr Q E [])
theorem okX_read_rule (T : Txt K mg A) : FnOk P w K mg base (L2.CX P w) 6 A.f_read_rule A.fd_read_rule ["text"] (spX_read_rule K A) := by
  refine T.F_read_rule.okX sc_read_rule (fun vs H Q E h => ?_) (fun cdv A' outer s0 H vs Q E hr h => ?_)
  · obtain ⟨x, fr, rfl, _⟩ := h
    rfl
  · obtain ⟨x, fr, rfl, S, hh⟩ := h
    refine ⟨_, (pss_cut (ps_set (i := 1) sc_read_rule.nd rfl (.inl rfl) (pe_ifExp (pt_val (pe_callB (call_gIsi (K := K) rfl) (by rfl) T.n_isinstance (by decide +kernel) (pa_cons (pv 0) (pa_cons (pe_bltn (v := .ty "str") (by rfl) T.n_str (by decide +kernel) rfl) pa_nil)))) (pe_gBm (K := K) rfl PySem.F.plainAttrs_str PySem.F.slot_str_split PySem.F.type_str_split mt_gSplit (pv 0) (pa_cons pe_str pa_nil)) (pe_lst pa_nil)))
      (pss_cut (ps_if (pt_val (pe_call (ok_begins_as T) (hr.mono (by decide)) rfl T.m_begins_as T.k_begins_as T.b_begins_as .nil pass0 (pa_cons (pv 1) (pa_cons (pe_tup (pa_cons pe_str (pa_cons pe_str (pa_cons pe_str pa_nil)))) pa_nil)))) (pss_cons (ps_set (i := 2) sc_read_rule.nd rfl (.inl rfl) (pe_call (okX_words_between_signs T) (hr.mono (by decide)) rfl T.m_words_between_signs T.k_words_between_signs T.b_words_between_signs .nil (passes_call (takes_of rfl rfl rfl rfl) (fun _ _ _ _ h => h)) (pa_cons (pe_slice (sl_g (K := K) rfl) (pv 1) (po_some pe_int) po_none) pa_nil)))
      (pss_one (ps_ret (pe_makeS T.mk_AtLeast (okXR_AtLeast___init__ (K := K) T) (hr.mono (by decide)) rfl T.vm_AtLeast (passes_call (takes_of rfl rfl rfl rfl) (fun _ _ _ _ h => h)) (pa_cons (pe_callTy call_gIntS (by rfl) T.n_int (by decide +kernel) (pa_cons (pe_ix (ix_g (K := K) rfl) (pv 1) pe_int (fun _ _ => rfl)) pa_nil)) (pa_gStar (K := K) rfl (pv 2) pa_nil)))))) pss_nil)
      (pss_cut (ps_if (pt_val (pe_call (ok_begins_as T) (hr.mono (by decide)) rfl T.m_begins_as T.k_begins_as T.b_begins_as .nil pass0 (pa_cons (pv 1) (pa_cons (pe_tup (pa_cons pe_str (pa_cons pe_str (pa_cons pe_str pa_nil)))) pa_nil)))) (pss_cons (ps_set (i := 2) sc_read_rule.nd rfl (.inl rfl) (pe_call (okX_words_between_signs T) (hr.mono (by decide)) rfl T.m_words_between_signs T.k_words_between_signs T.b_words_between_signs .nil (passes_call (takes_of rfl rfl rfl rfl) (fun _ _ _ _ h => h)) (pa_cons (pe_slice (sl_g (K := K) rfl) (pv 1) (po_some pe_int) po_none) pa_nil)))
      (pss_one (ps_ret (pe_makeS T.mk_AtMost (okXR_AtMost___init__ (K := K) T) (hr.mono (by decide)) rfl T.vm_AtMost (passes_call (takes_of rfl rfl rfl rfl) (fun _ _ _ _ h => h)) (pa_cons (pe_callTy call_gIntS (by rfl) T.n_int (by decide +kernel) (pa_cons (pe_ix (ix_g (K := K) rfl) (pv 1) pe_int (fun _ _ => rfl)) pa_nil)) (pa_gStar (K := K) rfl (pv 2) pa_nil)))))) pss_nil)
      (pss_cut (ps_if (pt_val (pe_call (ok_begins_as T) (hr.mono (by decide)) rfl T.m_begins_as T.k_begins_as T.b_begins_as .nil pass0 (pa_cons (pv 1) (pa_cons (pe_tup (pa_cons pe_str (pa_cons pe_str (pa_cons pe_str (pa_cons pe_str pa_nil))))) pa_nil)))) (pss_cons (ps_set (i := 2) sc_read_rule.nd rfl (.inl rfl) (pe_call (okX_words_between_signs T) (hr.mono (by decide)) rfl T.m_words_between_signs T.k_words_between_signs T.b_words_between_signs .nil (passes_call (takes_of rfl rfl rfl rfl) (fun _ _ _ _ h => h)) (pa_cons (pe_slice (sl_g (K := K) rfl) (pv 1) (po_some pe_int) po_none) pa_nil)))
      (pss_one (ps_ret (pe_makeS T.mk_Between (okXR_Between___init__ (K := K) T) (hr.mono (by decide)) rfl T.vm_Between (passes_call (takes_of rfl rfl rfl rfl) (fun _ _ _ _ h => h)) (pa_cons (pe_callTy call_gIntS (by rfl) T.n_int (by decide +kernel) (pa_cons (pe_ix (ix_g (K := K) rfl) (pv 1) pe_int (fun _ _ => rfl)) pa_nil)) (pa_cons (pe_callTy call_gIntS (by rfl) T.n_int (by decide +kernel) (pa_cons (pe_ix (ix_g (K := K) rfl) (pv 1) pe_int (fun _ _ => rfl)) pa_nil)) (pa_gStar (K := K) rfl (pv 2) pa_nil))))))) pss_nil)
      (pss_cut (ps_if (pt_val (pe_call (ok_begins_as T) (hr.mono (by decide)) rfl T.m_begins_as T.k_begins_as T.b_begins_as .nil pass0 (pa_cons (pv 1) (pa_cons (pe_tup (pa_cons pe_str (pa_cons pe_str pa_nil))) pa_nil)))) (pss_cons (ps_set (i := 2) sc_read_rule.nd rfl (.inl rfl) (pe_call (okX_words_between_signs T) (hr.mono (by decide)) rfl T.m_words_between_signs T.k_words_between_signs T.b_words_between_signs .nil (passes_call (takes_of rfl rfl rfl rfl) (fun _ _ _ _ h => h)) (pa_cons (pe_slice (sl_g (K := K) rfl) (pv 1) (po_some pe_int) po_none) pa_nil)))
      (pss_one (ps_ret (pe_makeS T.mk_Exactly (okXR_Exactly___init__ (K := K) T) (hr.mono (by decide)) rfl T.vm_Exactly (passes_call (takes_of rfl rfl rfl rfl) (fun _ _ _ _ h => h)) (pa_cons (pe_callTy call_gIntS (by rfl) T.n_int (by decide +kernel) (pa_cons (pe_ix (ix_g (K := K) rfl) (pv 1) pe_int (fun _ _ => rfl)) pa_nil)) (pa_gStar (K := K) rfl (pv 2) pa_nil)))))) pss_nil)
      (pss_one (ps_gRaise rfl (takes_of rfl rfl rfl rfl) (pmk_oex T.ox_BadRule T.oi_BadRule T.ot_BadRule (ok_BadRule___init__ (K := K) T) (hr.mono (by decide)) T.b_BadRule___init__ .nil pass0 rfl T.vm_BadRule (pa_cons pe_str pa_nil))))))))), ?_⟩
    refine r_cut (fun σ H => ∃ (p : Addr) (ts : List Str) (c : Option V), σ = [some x, some (.ref p), c] ∧ Sep (At p (.lst (ts.map V.str)) :: fr) H ∧ (∀ t ∈ ts, t.length ≤ 3000) ∧ ts.length ≤ 801 ∧ RdW A fr Q E ts) ?_ ?_
    · rcases hh with ⟨w, rfl, hw, R⟩ | ⟨t, ht, hk, R⟩
      · walk_at "v"
        refine m_tyS ?_
        walk_at "v"
        refine m_split (c := 32) S (by omega) (by decide +kernel) fun D H1 S1 => ?_
        walk_at "v"
        exact ⟨D, _, _, rfl, S1, fun t ht => Nat.le_trans (split_mem ht) (by omega), Nat.le_trans (split_cnt w 32) (by omega), R⟩
      · walk_at "v"
        refine i_one (.ty "str") ht hk ?_
        walk_at "v"
        rename_i p H1 S1
        exact ⟨p, [], _, rfl, S1, (fun t z => nomatch z), by decide, R⟩
    rintro σ H1 ⟨p, ts, c, rfl, S1, h1, h2, R⟩
    clear S hh
    have small : ∀ (f : Str), f ∈ (["at", "least", "most", "from", "to", "exactly", "#"] : List Str) → f.length ≤ 100 := by decide +kernel
    refine r_cut (fun σ H => ∃ (p : Addr) (c : Option V), σ = [some x, some (.ref p), c] ∧ Sep (At p (.lst (ts.map V.str)) :: fr) H ∧ bgn ts ["at", "least", "#"] = false) ?_ ?_
    · walk_at "v"
      rename_i q H2 S2
      refine ⟨p, q, ts, ["at", "least", "#"], 1, 0, _, rfl, rfl, rfl, h1, Nat.le_trans h2 (by decide), fun f hf => small f (by simp only [List.mem_cons, List.not_mem_nil, or_false] at hf ⊢; rcases hf with rfl | rfl | rfl <;> simp), by decide, S2, fun H3 S3 => ⟨_, rfl, ?_⟩⟩
      have S4 := S3.tail
      clear S1 S2 S3
      cases hb : bgn ts ["at", "least", "#"] with
      | false =>
        walk_at "v"
        exact ⟨p, _, rfl, S4, rfl⟩
      | true =>
        obtain ⟨t1, r1, rfl, g1, hb⟩ := bgn_cons hb
        obtain ⟨t2, r2, rfl, g2, hb⟩ := bgn_cons hb
        obtain ⟨t3, r3, rfl, g3, _⟩ := bgn_cons hb
        obtain rfl := bgn1_w wne1 g1
        obtain rfl := bgn1_w wne2 g2
        obtain ⟨n, hn, rfl⟩ := bgn1_d g3
        have hcut : cutV ((("at" : Str) :: "least" :: dig n :: r3).map V.str) (some 3) none = r3.map V.str := cut_from (k := 3) (by simp)
        walk_at "v"
        refine s_lst S4 has0 fun D H5 S5 => ?_
        rw [hcut] at S5
        walk_at "v"
        refine x_words_between S5 has0 (fun t ht => h1 t (by simp [ht])) (by simp only [List.length_cons] at h2; omega) (fun ks hk D2 H6 S6 => ?_) (fun hk d H6 S6 => ?_)
        · have hlk : (ks.map V.str).length ≤ 900 := by
            have := congrArg List.length (btw_ev hk)
            rw [ev_len] at this
            rw [List.length_map]
            simp only [List.length_cons] at h2
            omega
          have hlw : ∀ {l : List Asn}, ∀ v ∈ ks.map V.str, Lx l v := fun v hv => by
            obtain ⟨w, hw, rfl⟩ := List.mem_map.1 hv
            have := (hk.2.2 w hw).2.1
            exact lx_str (by omega)
          have hwr : Wr (("at" : Str) :: "least" :: dig n :: r3) 0 n 0 ks := ⟨by decide, hn, by decide, by rw [hk.1, toks], hk.2.1, hk.2.2⟩
          walk_at "v"
          refine x_lst S6 (hasS (hasS has0)) (v := .str (dig n)) (at_natR (i := 2) rfl) ?_
          walk_at "v"
          refine c_intS hn ?_
          walk_at "v"
          refine c_starL S6 has0 ?_
          walk_at "v"
          rw [List.append_nil]
          refine y_AtLeast S6 T.kl_AtLeast lx_int hlw hlk (fun hv y H7 S7 => ?_) (fun v hv d H7 S7 => ?_)
          · exact R.n 0 n 0 ks hwr hv y _ (S7.drops [1, 1, 1])
          · exact R.x 0 n 0 ks hwr v hv d _ (S7.drops [1, 1, 1])
        · refine R.t ?_ d _ (S6.drops [1, 1])
          rintro ⟨m, a, b, ks, hw⟩
          rcases wr_at hw with ⟨rfl, _, e⟩ | ⟨rfl, e, _⟩
          · exact hk ⟨ks, wr_btw hw (List.cons.inj e).2⟩
          · exact wd3 e
    clear S1
    rintro σ H1 ⟨p, c, rfl, S1, e0⟩
    refine r_cut (fun σ H => ∃ (p : Addr) (c : Option V), σ = [some x, some (.ref p), c] ∧ Sep (At p (.lst (ts.map V.str)) :: fr) H ∧ bgn ts ["at", "least", "#"] = false ∧ bgn ts ["at", "most", "#"] = false) ?_ ?_
    · walk_at "v"
      rename_i q H2 S2
      refine ⟨p, q, ts, ["at", "most", "#"], 1, 0, _, rfl, rfl, rfl, h1, Nat.le_trans h2 (by decide), fun f hf => small f (by simp only [List.mem_cons, List.not_mem_nil, or_false] at hf ⊢; rcases hf with rfl | rfl | rfl <;> simp), by decide, S2, fun H3 S3 => ⟨_, rfl, ?_⟩⟩
      have S4 := S3.tail
      clear S1 S2 S3
      cases hb : bgn ts ["at", "most", "#"] with
      | false =>
        walk_at "v"
        exact ⟨p, _, rfl, S4, e0, rfl⟩
      | true =>
        obtain ⟨t1, r1, rfl, g1, hb⟩ := bgn_cons hb
        obtain ⟨t2, r2, rfl, g2, hb⟩ := bgn_cons hb
        obtain ⟨t3, r3, rfl, g3, _⟩ := bgn_cons hb
        obtain rfl := bgn1_w wne1 g1
        obtain rfl := bgn1_w wne3 g2
        obtain ⟨n, hn, rfl⟩ := bgn1_d g3
        have hcut : cutV ((("at" : Str) :: "most" :: dig n :: r3).map V.str) (some 3) none = r3.map V.str := cut_from (k := 3) (by simp)
        walk_at "v"
        refine s_lst S4 has0 fun D H5 S5 => ?_
        rw [hcut] at S5
        walk_at "v"
        refine x_words_between S5 has0 (fun t ht => h1 t (by simp [ht])) (by simp only [List.length_cons] at h2; omega) (fun ks hk D2 H6 S6 => ?_) (fun hk d H6 S6 => ?_)
        · have hlk : (ks.map V.str).length ≤ 900 := by
            have := congrArg List.length (btw_ev hk)
            rw [ev_len] at this
            rw [List.length_map]
            simp only [List.length_cons] at h2
            omega
          have hlw : ∀ {l : List Asn}, ∀ v ∈ ks.map V.str, Lx l v := fun v hv => by
            obtain ⟨w, hw, rfl⟩ := List.mem_map.1 hv
            have := (hk.2.2 w hw).2.1
            exact lx_str (by omega)
          have hwr : Wr (("at" : Str) :: "most" :: dig n :: r3) 1 0 n ks := ⟨by decide, by decide, hn, by rw [hk.1, toks], hk.2.1, hk.2.2⟩
          walk_at "v"
          refine x_lst S6 (hasS (hasS has0)) (v := .str (dig n)) (at_natR (i := 2) rfl) ?_
          walk_at "v"
          refine c_intS hn ?_
          walk_at "v"
          refine c_starL S6 has0 ?_
          walk_at "v"
          rw [List.append_nil]
          refine y_AtMost S6 T.kl_AtMost lx_int hlw hlk (fun hv y H7 S7 => ?_) (fun v hv d H7 S7 => ?_)
          · exact R.n 1 0 n ks hwr hv y _ (S7.drops [1, 1, 1])
          · exact R.x 1 0 n ks hwr v hv d _ (S7.drops [1, 1, 1])
        · refine R.t ?_ d _ (S6.drops [1, 1])
          rintro ⟨m, a, b, ks, hw⟩
          rcases wr_at hw with ⟨rfl, e, _⟩ | ⟨rfl, _, e⟩
          · exact wd3 e.symm
          · exact hk ⟨ks, wr_btw hw (List.cons.inj e).2⟩
    clear S1
    rintro σ H1 ⟨p, c, rfl, S1, e0, e1⟩
    refine r_cut (fun σ H => ∃ (p : Addr) (c : Option V), σ = [some x, some (.ref p), c] ∧ Sep (At p (.lst (ts.map V.str)) :: fr) H ∧ bgn ts ["at", "least", "#"] = false ∧ bgn ts ["at", "most", "#"] = false ∧ bgn ts ["from", "#", "to", "#"] = false) ?_ ?_
    · walk_at "v"
      rename_i q H2 S2
      refine ⟨p, q, ts, ["from", "#", "to", "#"], 1, 0, _, rfl, rfl, rfl, h1, Nat.le_trans h2 (by decide), fun f hf => small f (by simp only [List.mem_cons, List.not_mem_nil, or_false] at hf ⊢; rcases hf with rfl | rfl | rfl | rfl <;> simp), by decide, S2, fun H3 S3 => ⟨_, rfl, ?_⟩⟩
      have S4 := S3.tail
      clear S1 S2 S3
      cases hb : bgn ts ["from", "#", "to", "#"] with
      | false =>
        walk_at "v"
        exact ⟨p, _, rfl, S4, e0, e1, rfl⟩
      | true =>
        obtain ⟨t1, r1, rfl, g1, hb⟩ := bgn_cons hb
        obtain ⟨t2, r2, rfl, g2, hb⟩ := bgn_cons hb
        obtain ⟨t3, r3, rfl, g3, hb⟩ := bgn_cons hb
        obtain ⟨t4, r4, rfl, g4, _⟩ := bgn_cons hb
        obtain rfl := bgn1_w wne4 g1
        obtain ⟨n, hn, rfl⟩ := bgn1_d g2
        obtain rfl := bgn1_w wne5 g3
        obtain ⟨n2, hn2, rfl⟩ := bgn1_d g4
        have hcut : cutV ((("from" : Str) :: dig n :: "to" :: dig n2 :: r4).map V.str) (some 4) none = r4.map V.str := cut_from (k := 4) (by simp)
        walk_at "v"
        refine s_lst S4 has0 fun D H5 S5 => ?_
        rw [hcut] at S5
        walk_at "v"
        refine x_words_between S5 has0 (fun t ht => h1 t (by simp [ht])) (by simp only [List.length_cons] at h2; omega) (fun ks hk D2 H6 S6 => ?_) (fun hk d H6 S6 => ?_)
        · have hlk : (ks.map V.str).length ≤ 900 := by
            have := congrArg List.length (btw_ev hk)
            rw [ev_len] at this
            rw [List.length_map]
            simp only [List.length_cons] at h2
            omega
          have hlw : ∀ {l : List Asn}, ∀ v ∈ ks.map V.str, Lx l v := fun v hv => by
            obtain ⟨w, hw, rfl⟩ := List.mem_map.1 hv
            have := (hk.2.2 w hw).2.1
            exact lx_str (by omega)
          have hwr : Wr (("from" : Str) :: dig n :: "to" :: dig n2 :: r4) 2 n n2 ks := ⟨by decide, hn, hn2, by rw [hk.1, toks], hk.2.1, hk.2.2⟩
          walk_at "v"
          refine x_lst S6 (hasS (hasS has0)) (v := .str (dig n)) (at_natR (i := 1) rfl) ?_
          walk_at "v"
          refine c_intS hn ?_
          walk_at "v"
          refine x_lst S6 (hasS (hasS has0)) (v := .str (dig n2)) (at_natR (i := 3) rfl) ?_
          walk_at "v"
          refine c_intS hn2 ?_
          walk_at "v"
          refine c_starL S6 has0 ?_
          walk_at "v"
          rw [List.append_nil]
          refine y_Between S6 T.kl_Between lx_int lx_int hlw hlk (fun hv y H7 S7 => ?_) (fun v hv d H7 S7 => ?_)
          · exact R.n 2 n n2 ks hwr hv y _ (S7.drops [1, 1, 1])
          · exact R.x 2 n n2 ks hwr v hv d _ (S7.drops [1, 1, 1])
        · refine R.t ?_ d _ (S6.drops [1, 1])
          rintro ⟨m, a, b, ks, hw⟩
          obtain ⟨rfl, e⟩ := wr_from hw
          exact hk ⟨ks, wr_btw hw (List.cons.inj (List.cons.inj (List.cons.inj e).2).2).2⟩
    clear S1
    rintro σ H1 ⟨p, c, rfl, S1, e0, e1, e2⟩
    refine r_cut (fun σ H => ∃ (p : Addr) (c : Option V), σ = [some x, some (.ref p), c] ∧ Sep (At p (.lst (ts.map V.str)) :: fr) H ∧ bgn ts ["at", "least", "#"] = false ∧ bgn ts ["at", "most", "#"] = false ∧ bgn ts ["from", "#", "to", "#"] = false ∧ bgn ts ["exactly", "#"] = false) ?_ ?_
    · walk_at "v"
      rename_i q H2 S2
      refine ⟨p, q, ts, ["exactly", "#"], 1, 0, _, rfl, rfl, rfl, h1, Nat.le_trans h2 (by decide), fun f hf => small f (by simp only [List.mem_cons, List.not_mem_nil, or_false] at hf ⊢; rcases hf with rfl | rfl <;> simp), by decide, S2, fun H3 S3 => ⟨_, rfl, ?_⟩⟩
      have S4 := S3.tail
      clear S1 S2 S3
      cases hb : bgn ts ["exactly", "#"] with
      | false =>
        walk_at "v"
        exact ⟨p, _, rfl, S4, e0, e1, e2, rfl⟩
      | true =>
        obtain ⟨t1, r1, rfl, g1, hb⟩ := bgn_cons hb
        obtain ⟨t2, r2, rfl, g2, _⟩ := bgn_cons hb
        obtain rfl := bgn1_w wne6 g1
        obtain ⟨n, hn, rfl⟩ := bgn1_d g2
        have hcut : cutV ((("exactly" : Str) :: dig n :: r2).map V.str) (some 2) none = r2.map V.str := cut_from (k := 2) (by simp)
        walk_at "v"
        refine s_lst S4 has0 fun D H5 S5 => ?_
        rw [hcut] at S5
        walk_at "v"
        refine x_words_between S5 has0 (fun t ht => h1 t (by simp [ht])) (by simp only [List.length_cons] at h2; omega) (fun ks hk D2 H6 S6 => ?_) (fun hk d H6 S6 => ?_)
        · have hlk : (ks.map V.str).length ≤ 900 := by
            have := congrArg List.length (btw_ev hk)
            rw [ev_len] at this
            rw [List.length_map]
            simp only [List.length_cons] at h2
            omega
          have hlw : ∀ {l : List Asn}, ∀ v ∈ ks.map V.str, Lx l v := fun v hv => by
            obtain ⟨w, hw, rfl⟩ := List.mem_map.1 hv
            have := (hk.2.2 w hw).2.1
            exact lx_str (by omega)
          have hwr : Wr (("exactly" : Str) :: dig n :: r2) 3 n 0 ks := ⟨by decide, hn, by decide, by rw [hk.1, toks], hk.2.1, hk.2.2⟩
          walk_at "v"
          refine x_lst S6 (hasS (hasS has0)) (v := .str (dig n)) (at_natR (i := 1) rfl) ?_
          walk_at "v"
          refine c_intS hn ?_
          walk_at "v"
          refine c_starL S6 has0 ?_
          walk_at "v"
          rw [List.append_nil]
          refine y_Exactly S6 T.kl_Exactly lx_int hlw hlk (fun hv y H7 S7 => ?_) (fun v hv d H7 S7 => ?_)
          · exact R.n 3 n 0 ks hwr hv y _ (S7.drops [1, 1, 1])
          · exact R.x 3 n 0 ks hwr v hv d _ (S7.drops [1, 1, 1])
        · refine R.t ?_ d _ (S6.drops [1, 1])
          rintro ⟨m, a, b, ks, hw⟩
          obtain ⟨rfl, e⟩ := wr_ex hw
          exact hk ⟨ks, wr_btw hw (List.cons.inj e).2⟩
    clear S1
    rintro σ H1 ⟨p, c, rfl, S1, e0, e1, e2, e3⟩
    walk_at "v"
    refine mk_one S1.tail T.ox_BadRule T.xn_BadRule_what (R.t ?_)
    rintro ⟨m, a, b, ks, hw⟩
    rcases wr_bgn hw with z | z | z | z
    · exact Bool.false_ne_true (e0.symm.trans z)
    · exact Bool.false_ne_true (e1.symm.trans z)
    · exact Bool.false_ne_true (e2.symm.trans z)
    · exact Bool.false_ne_true (e3.symm.trans z)
/-! law_forms -/
theorem dg_str {n : Nat} (h : n < 10) : Str.ofString (toString ((n : Nat) : Int)) = dig n := dig_of ⟨n, h⟩
theorem dg_log {n : Nat} (h : n < 10) : ((n : Nat) : Int).natAbs.log2 < 1920 := Nat.lt_trans (PySem.Flt.log2_lt_of (by decide) (show n < 2 ^ 4 by omega)) (by decide)
def nmT (ks : List Str) : Str := Txt.join " + " ks
/-- the four texts of a rule -/
def fT (a b : Nat) (ks : List Str) : Nat → Str
  | 0 => "at least " ++ dig a ++ " " ++ nmT ks
  | 1 => "at most " ++ dig b ++ " " ++ nmT ks
  | 2 => "from " ++ dig a ++ " to " ++ dig b ++ " " ++ nmT ks
  | _ + 3 => "exactly " ++ dig a ++ " " ++ nmT ks
def sp_law_forms (K : PySem.W.Frag) : Sp := fun vs H Q _ => ∃ (a b : Nat) (p : Addr) (ks : List Str) (i : Nat) (fr : List Asn), vs = [.int a, .int b, .ref p] ∧ a < 10 ∧ b < 10 ∧ fr[i]? = some (At p (.lst (ks.map V.str))) ∧ (∀ w ∈ ks, w.length ≤ 8) ∧ ks.length ≤ 4 ∧ Sep fr H ∧
  ∀ d H', Sep (At d (.lst ([fT a b ks 0, fT a b ks 1, fT a b ks 2, fT a b ks 3].map V.str)) :: fr) H' → Q (.ref d) H'
theorem ok_law_forms (T : Txt K mg A) : FnOk P w K mg base CX0 8 A.f_law_forms A.fd_law_forms ["low", "high", "kinds"] (sp_law_forms K) := by
  refine T.F_law_forms.ok sc_law_forms (fun vs H Q E h => ?_) (fun cdv A' outer s0 H vs Q E hr h => ?_)
  · obtain ⟨a, b, p, ks, i, fr, rfl, _⟩ := h
    rfl
  · obtain ⟨a, b, p, ks, i0, fr, rfl, ha, hb, hi, hw, hz, S, k⟩ := h
    have e3 : (" + " : Str).length = 3 := rfl
    have hkl : (nmT ks).length ≤ 44 := by
      have h1 := join_len (a := " + ") hw
      rw [e3] at h1
      have h2 : ks.length * 11 ≤ 4 * 11 := Nat.mul_le_mul_right _ hz
      unfold nmT
      omega
    refine ⟨_, (pss_cons (ps_set (i := 3) sc_law_forms.nd rfl (.inl rfl) (pe_gJoin (K := K) rfl pe_str (pv 2)))
      (pss_cons (ps_set (i := 4) sc_law_forms.nd rfl (.inl rfl) (pe_lst (pa_cons (pe_op op_gAdd (pe_op op_gAdd (pe_op op_gAdd pe_str (pe_callTy call_str_int (by rfl) T.n_str (by decide +kernel) (pa_cons (pv 0) pa_nil))) pe_str) (pv 3)) (pa_cons (pe_op op_gAdd (pe_op op_gAdd (pe_op op_gAdd pe_str (pe_callTy call_str_int (by rfl) T.n_str (by decide +kernel) (pa_cons (pv 1) pa_nil))) pe_str) (pv 3)) pa_nil))))
      (pss_cons (ps_expr (pe_gBm (K := K) rfl PySem.F.plainAttrs_list PySem.F.slot_list_append PySem.F.type_list_append mt_append (pv 4) (pa_cons (pe_op op_gAdd (pe_op op_gAdd (pe_op op_gAdd (pe_op op_gAdd (pe_op op_gAdd pe_str (pe_callTy call_str_int (by rfl) T.n_str (by decide +kernel) (pa_cons (pv 0) pa_nil))) pe_str) (pe_callTy call_str_int (by rfl) T.n_str (by decide +kernel) (pa_cons (pv 1) pa_nil))) pe_str) (pv 3)) pa_nil)))
      (pss_one (ps_ret (pe_op op_gAdd (pv 4) (pe_lst (pa_cons (pe_op op_gAdd (pe_op op_gAdd (pe_op op_gAdd pe_str (pe_callTy call_str_int (by rfl) T.n_str (by decide +kernel) (pa_cons (pv 0) pa_nil))) pe_str) (pv 3)) pa_nil)))))))), ?_⟩
    walk_at "v"
    refine c_join S hi hw (by rw [e3]; omega) ?_
    have hj : (Txt.join (" + " : Str) ks).length ≤ 44 := hkl
    have ez : sizeLine = 16777216 := sizeLine_eq
    have c1 : ("at least " : Str).length = 9 := rfl
    have c2 : ("at most " : Str).length = 8 := rfl
    have c3 : ("from " : Str).length = 5 := rfl
    have c4 : (" to " : Str).length = 4 := rfl
    have c5 : ("exactly " : Str).length = 8 := rfl
    have c6 : (" " : Str).length = 1 := rfl
    have d1 : (dig a).length = 1 := rfl
    have d2 : (dig b).length = 1 := rfl
    walk_at "v"
    refine ⟨_, rfl, dg_log ha, ?_⟩
    rw [dg_str ha]
    show gAdd _ _ _ _
    refine o_addS (by (try simp only [str_len_app]); omega) ?_
    walk_at "v"
    refine o_addS (by (try simp only [str_len_app]); omega) ?_
    walk_at "v"
    refine o_addS (by (try simp only [str_len_app]); omega) ?_
    walk_at "v"
    refine ⟨_, rfl, dg_log hb, ?_⟩
    rw [dg_str hb]
    show gAdd _ _ _ _
    refine o_addS (by (try simp only [str_len_app]); omega) ?_
    walk_at "v"
    refine o_addS (by (try simp only [str_len_app]); omega) ?_
    walk_at "v"
    refine o_addS (by (try simp only [str_len_app]); omega) ?_
    walk_at "v"
    refine ⟨_, rfl, dg_log ha, ?_⟩
    rw [dg_str ha]
    show gAdd _ _ _ _
    refine o_addS (by (try simp only [str_len_app]); omega) ?_
    walk_at "v"
    refine o_addS (by (try simp only [str_len_app]); omega) ?_
    walk_at "v"
    refine ⟨_, rfl, dg_log hb, ?_⟩
    rw [dg_str hb]
    show gAdd _ _ _ _
    refine o_addS (by (try simp only [str_len_app]); omega) ?_
    walk_at "v"
    refine o_addS (by (try simp only [str_len_app]); omega) ?_
    walk_at "v"
    refine o_addS (by (try simp only [str_len_app]); omega) ?_
    walk_at "v"
    rename_i D1 H2 S2
    refine m_append S2 has0 (by simp only [List.length_cons, List.length_nil]; decide) fun H3 S3 => ?_
    walk_at "v"
    refine ⟨_, rfl, dg_log ha, ?_⟩
    rw [dg_str ha]
    show gAdd _ _ _ _
    refine o_addS (by (try simp only [str_len_app]); omega) ?_
    walk_at "v"
    refine o_addS (by (try simp only [str_len_app]); omega) ?_
    walk_at "v"
    refine o_addS (by (try simp only [str_len_app]); omega) ?_
    walk_at "v"
    rename_i D2 H4 S4
    refine o_cat S4 (hasS has0) has0 (by rw [ez]; simp) fun d H5 S5 => ?_
    exact k d H5 (S5.drops [1, 1])
theorem c_law_forms {K : PySem.W.Frag} {l : List Asn} {H : Hp} {i : Nat} {a b : Nat} {p : Addr} {ks : List Str} {Q : VK} {E : XK} (S : Sep l H) (e : l[i]? = some (At p (.lst (ks.map V.str)))) (ha : a < 10) (hb : b < 10) (hw : ∀ w ∈ ks, w.length ≤ 8) (hz : ks.length ≤ 4)
    (k : ∀ d H', Sep (At d (.lst ([fT a b ks 0, fT a b ks 1, fT a b ks 2, fT a b ks 3].map V.str)) :: l) H' → Q (.ref d) H') : sp_law_forms K [.int a, .int b, .ref p] H Q E := ⟨a, b, p, ks, i, l, rfl, ha, hb, e, hw, hz, S, k⟩
--needs read_rule
/-! a written rule, split -/
abbrev sps : Str := ⟨#[32]⟩
theorem str_asc (a b c : Str) : a ++ b ++ c = a ++ (b ++ c) := str_eq_of (by simp only [cps_app, List.append_assoc])
theorem jn_cons {x : Str} {ts : List Str} (h : ts ≠ []) : Str.join sps (x :: ts) = x ++ (sps ++ Str.join sps ts) := by
  cases ts with
  | nil => exact (h rfl).elim
  | cons y ts => exact str_asc x sps _
theorem inter_nn {ks : List Str} (h : ks ≠ []) : inter ks ≠ [] := by
  match ks, h with
  | [k], _ => simp [inter]
  | k :: l :: ks, _ => simp [inter]
theorem pl_sp : (" + " : Str) = sps ++ ("+" ++ sps) := by decide +kernel
theorem jn_inter : ∀ {ks : List Str}, ks ≠ [] → Str.join sps (inter ks) = Str.join " + " ks
  | [k], _ => rfl
  | k :: l :: ks, _ => by
    have h := jn_inter (ks := l :: ks) (by simp)
    show Str.join sps (k :: "+" :: inter (l :: ks)) = k ++ " + " ++ Str.join " + " (l :: ks)
    rw [jn_cons (by simp), jn_cons (inter_nn (by simp)), ← h, pl_sp]
    simp only [str_asc]
theorem jn_toks {a b : Nat} {ks : List Str} (h : ks ≠ []) : ∀ m, Str.join sps (toks m a b ks) = fT a b ks m := by
  have hi := inter_nn h
  have hj : Str.join sps (inter ks) = nmT ks := by rw [jn_inter h]; exact (TL.join_eq _ _).symm
  have e0 : (" " : Str) = sps := by decide +kernel
  have e1 : ("at least " : Str) = "at" ++ (sps ++ ("least" ++ sps)) := by decide +kernel
  have e2 : ("at most " : Str) = "at" ++ (sps ++ ("most" ++ sps)) := by decide +kernel
  have e3 : ("from " : Str) = "from" ++ sps := by decide +kernel
  have e4 : (" to " : Str) = sps ++ ("to" ++ sps) := by decide +kernel
  have e5 : ("exactly " : Str) = "exactly" ++ sps := by decide +kernel
  intro m
  match m with
  | 0 =>
    rw [toks, fT, jn_cons (by simp), jn_cons (by simp), jn_cons hi, hj, e1, e0]
    simp only [str_asc]
  | 1 =>
    rw [toks, fT, jn_cons (by simp), jn_cons (by simp), jn_cons hi, hj, e2, e0]
    simp only [str_asc]
  | 2 =>
    rw [toks, fT, jn_cons (by simp), jn_cons (by simp), jn_cons (by simp), jn_cons hi, hj, e3, e4, e0]
    simp only [str_asc]
  | m + 3 =>
    rw [toks, fT, jn_cons (by simp), jn_cons hi, hj, e5, e0]
    simp only [str_asc]
theorem wd_nsp {w : Str} (h : Wd w) : 32 ∉ w.cps.toList := fun z => absurd (h.2.2 32 z) (by decide +kernel)
theorem inter_mem : ∀ {ks : List Str} {p : Str}, p ∈ inter ks → p ∈ ks ∨ p = "+"
  | [k], p, h => .inl h
  | k :: l :: ks, p, h => by
    rcases List.mem_cons.1 h with rfl | h
    · exact .inl List.mem_cons_self
    rcases List.mem_cons.1 h with rfl | h
    · exact .inr rfl
    rcases inter_mem h with h | h
    · exact .inl (List.mem_cons_of_mem _ h)
    · exact .inr h
theorem lit_nsp : ∀ p ∈ (["at", "least", "most", "from", "to", "exactly", "+"] : List Str), 32 ∉ p.cps.toList := by decide +kernel
theorem dig_nsp (n : Nat) : 32 ∉ (dig n).cps.toList := fun z => by
  have := List.mem_singleton.1 z
  omega
theorem inter_nsp {ks : List Str} (hw : ∀ w ∈ ks, Wd w) : ∀ p ∈ inter ks, 32 ∉ p.cps.toList := fun p hp => by
  rcases inter_mem hp with h | rfl
  · exact wd_nsp (hw p h)
  · exact lit_nsp _ (by simp)
theorem toks_nsp {a b : Nat} {ks : List Str} (hw : ∀ w ∈ ks, Wd w) : ∀ m, ∀ p ∈ toks m a b ks, 32 ∉ p.cps.toList := by
  have hi := inter_nsp hw
  intro m p hp
  match m, hp with
  | 0, hp =>
    simp only [toks, List.mem_cons] at hp
    rcases hp with rfl | rfl | rfl | hp
    · exact lit_nsp _ (by simp)
    · exact lit_nsp _ (by simp)
    · exact dig_nsp a
    · exact hi p hp
  | 1, hp =>
    simp only [toks, List.mem_cons] at hp
    rcases hp with rfl | rfl | rfl | hp
    · exact lit_nsp _ (by simp)
    · exact lit_nsp _ (by simp)
    · exact dig_nsp b
    · exact hi p hp
  | 2, hp =>
    simp only [toks, List.mem_cons] at hp
    rcases hp with rfl | rfl | rfl | rfl | hp
    · exact lit_nsp _ (by simp)
    · exact dig_nsp a
    · exact lit_nsp _ (by simp)
    · exact dig_nsp b
    · exact hi p hp
  | m + 3, hp =>
    simp only [toks, List.mem_cons] at hp
    rcases hp with rfl | rfl | hp
    · exact lit_nsp _ (by simp)
    · exact dig_nsp a
    · exact hi p hp
theorem toks_nn (m a b : Nat) (ks : List Str) : toks m a b ks ≠ [] := by
  match m with
  | 0 => simp [toks]
  | 1 => simp [toks]
  | 2 => simp [toks]
  | m + 3 => simp [toks]
theorem split_form {m a b : Nat} {ks : List Str} (h : ks ≠ []) (hw : ∀ w ∈ ks, Wd w) : Txt.split (fT a b ks m) ⟨#[32]⟩ = toks m a b ks :=
  split_is (jn_toks h m) (toks_nn m a b ks) (toks_nsp hw m)
theorem inter_inj {ks us : List Str} (h : inter ks = inter us) : ks = us := by rw [← ev_inter ks, h, ev_inter]
/-- one reading alone -/
theorem toks_one {A : Ad} {i a0 b0 m a b : Nat} {ks us : List Str} (hi : i < 4) (h : Wr (toks i a0 b0 us) m a b ks) : m = i ∧ ks = us ∧ wnums m a b = wnums i a0 b0 ∧ ∀ y zs, RuW A y a b zs m = RuW A y a0 b0 zs i := by
  match i, hi, h with
  | 0, _, h =>
    rcases wr_at h with ⟨rfl, _, e⟩ | ⟨_, e, _⟩
    · have e1 := List.cons.inj e
      have e2 := dig_inj e1.1
      subst e2
      exact ⟨rfl, (inter_inj e1.2).symm, rfl, fun _ _ => rfl⟩
    · exact (wd3 e).elim
  | 1, _, h =>
    rcases wr_at h with ⟨_, e, _⟩ | ⟨rfl, _, e⟩
    · exact (wd3 e.symm).elim
    · have e1 := List.cons.inj e
      have e2 := dig_inj e1.1
      subst e2
      exact ⟨rfl, (inter_inj e1.2).symm, rfl, fun _ _ => rfl⟩
  | 2, _, h =>
    obtain ⟨rfl, e⟩ := wr_from h
    have e1 := List.cons.inj e
    have e3 := List.cons.inj (List.cons.inj e1.2).2
    have e2 := dig_inj e1.1
    have e4 := dig_inj e3.1
    subst e2 e4
    exact ⟨rfl, (inter_inj e3.2).symm, rfl, fun _ _ => rfl⟩
  | 3, _, h =>
    obtain ⟨rfl, e⟩ := wr_ex h
    have e1 := List.cons.inj e
    have e2 := dig_inj e1.1
    subst e2
    exact ⟨rfl, (inter_inj e1.2).symm, rfl, fun _ _ => rfl⟩
theorem fT_len {a b : Nat} {ks : List Str} (hw : ∀ w ∈ ks, w.length ≤ 8) (hz : ks.length ≤ 4) : ∀ m, (fT a b ks m).length ≤ 60 := by
  have hkl : (nmT ks).length ≤ 44 := by
    have h1 := join_len (a := " + ") hw
    rw [show (" + " : Str).length = 3 from rfl] at h1
    have h2 : ks.length * 11 ≤ 4 * 11 := Nat.mul_le_mul_right _ hz
    unfold nmT
    omega
  have c1 : ("at least " : Str).length = 9 := rfl
  have c2 : ("at most " : Str).length = 8 := rfl
  have c3 : ("from " : Str).length = 5 := rfl
  have c4 : (" to " : Str).length = 4 := rfl
  have c5 : ("exactly " : Str).length = 8 := rfl
  have c6 : (" " : Str).length = 1 := rfl
  have d1 : (dig a).length = 1 := rfl
  have d2 : (dig b).length = 1 := rfl
  intro m
  match m with
  | 0 => simp only [fT, str_len_app]; omega
  | 1 => simp only [fT, str_len_app]; omega
  | 2 => simp only [fT, str_len_app]; omega
  | m + 3 => simp only [fT, str_len_app]; omega
/-- reading a text that is written well: what it comes to -/
theorem x_read {K : PySem.W.Frag} {A : Ad} {l : List Asn} {H : Hp} {m a b : Nat} {ks : List Str} {Q : VK} {E : XK} (S : Sep l H) (hm : m < 4) (ha : a < 10) (hb : b < 10) (hn : ks ≠ []) (hw : ∀ w ∈ ks, Wd w) (hz : ks.length ≤ 4)
    (kN : Ver (wnums m a b) (ks.map V.str) none → ∀ y H', Sep (RuW A y a b (ks.map V.str) m :: l) H' → Q (.ref y) H') (kX : ∀ v, Ver (wnums m a b) (ks.map V.str) (some v) → ∀ d H', Sep (At d (.xd [("what", .str v)]) :: l) H' → E (.ref A.c_BadRule) (some d) H') : spX_read_rule K A [.str (fT a b ks m)] H Q E := by
  have hl := fT_len (a := a) (b := b) (fun w hx => (hw w hx).2.1) hz m
  refine ⟨_, l, rfl, S, .inl ⟨_, rfl, by omega, ?_⟩⟩
  rw [split_form hn hw]
  have hwr : Wr (toks m a b ks) m a b ks := ⟨hm, ha, hb, rfl, hn, hw⟩
  refine ⟨fun m' a' b' ks' h hv y H' S' => ?_, fun m' a' b' ks' h v hv d H' S' => ?_, fun h => (h ⟨m, a, b, ks, hwr⟩).elim⟩
  · obtain ⟨e1, e2, e3, e4⟩ := toks_one (A := A) hm h
    rw [e3, e2] at hv
    rw [e4, e2] at S'
    exact kN hv y H' S'
  · obtain ⟨e1, e2, e3, e4⟩ := toks_one (A := A) hm h
    rw [e3, e2] at hv
    exact kX v hv d H' S'
/-! law_what -/
/-- the word that a text's reading comes to -/
structure WhW (fr : List Asn) (Q : VK) (ts : List Str) : Prop where
  n : ∀ m a b ks, Wr ts m a b ks → ∀ v, (Ver (wnums m a b) (ks.map V.str) (some v) ∨ (Ver (wnums m a b) (ks.map V.str) none ∧ v = "")) → ∀ H', Sep fr H' → Q (.str v) H'
  t : (¬ ∃ m a b ks, Wr ts m a b ks) → ∀ H', Sep fr H' → Q (.str "text") H'
def sp_law_what (K : PySem.W.Frag) (A : Ad) : Sp := fun vs H Q _ => ∃ (x : V) (fr : List Asn), vs = [x] ∧ Sep fr H ∧ ((∃ w : Str, x = .str w ∧ w.length ≤ 800 ∧ WhW fr Q (Txt.split w ⟨#[32]⟩)) ∨
  ∃ t, TyX K H x t ∧ PySem.W.kitOne K t (.type "str") = some false ∧ ∀ H', Sep fr H' → Q (.str "text") H')
theorem ok_law_what (T : Txt K mg A) : FnOk P w K mg base CX0 10 A.f_law_what A.fd_law_what ["text"] (sp_law_what K A) := by
  refine T.F_law_what.ok sc_law_what (fun vs H Q E h => ?_) (fun cdv A' outer s0 H vs Q E hr h => ?_)
  · obtain ⟨x, fr, rfl, _⟩ := h
    rfl
  · obtain ⟨x, fr, rfl, S, hh⟩ := h
    refine ⟨_, (pss_cons (ps_gTryAs (K := K) (i := 1) rfl rfl rfl sc_law_what.nd rfl rfl ⟨rfl, by decide, .inl T.vm_BadRule⟩ takes0 (fun W pn xe tk hpo => (pss_one (ps_expr (pe_callS (okX_read_rule T) (hr.mono (by decide)) rfl T.m_read_rule T.k_read_rule T.b_read_rule (fun σ => passAt tk σ) (pa_cons (pv 0) pa_nil))))) (fun a oe cls d pn hz hf => (pss_one (ps_ret (pe_ifExp (pt_val (pe_callB (call_isD (K := K) rfl T.xc_BadRule hz hf) (by rfl) T.n_isinstance (by decide +kernel) (pa_cons (pv 1) (pa_cons (pe_glob (v := .ref A.c_CountsheldError) rfl T.vm_CountsheldError rfl) pa_nil)))) (pe_gXf (K := K) rfl T.xf_BadRule T.xn_BadRule_what hz hf (pv 1)) pe_str)))))
      (pss_one (ps_ret pe_str))), ?_⟩
    walk_at "v"
    have ex : ∀ (v : Str) (H' : Hp), (∀ H', Sep fr H' → Q (.str v) H') → True := fun _ _ _ => trivial
    rcases hh with ⟨w, rfl, hw, R⟩ | ⟨t, ht, hk, R⟩
    · refine ⟨_, fr, rfl, S, .inl ⟨w, rfl, hw, fun m a b ks hwr hv y H' S' => ?_, fun m a b ks hwr v hv d H' S' => w_as T.te_BadRule_BadRule fun a ha => ?_, fun hn d H' S' => w_as T.te_BadRule_BadRule fun a ha => ?_⟩⟩
      · walk_at "v"
        exact R.n m a b ks hwr "" (.inr ⟨hv, rfl⟩) _ S'.tail
      · walk_at "v"
        refine c_isD (b := true) S' has0 (.own _) T.kit_BadRule_CountsheldError ?_
        walk_at "v"
        exact R.n m _ _ ks hwr v (.inl hv) _ S'.tail
      · walk_at "v"
        refine c_isD (b := true) S' has0 (.own _) T.kit_BadRule_CountsheldError ?_
        walk_at "v"
        exact R.t hn _ S'.tail
    · have nw : ∀ m a b ks, ¬ Wr [] m a b ks := fun m a b ks h => toks_nn m a b ks h.2.2.2.1.symm
      refine ⟨_, fr, rfl, S, .inr ⟨t, ht, hk, fun m a b ks hwr => (nw m a b ks hwr).elim, fun m a b ks hwr => (nw m a b ks hwr).elim, fun hn d H' S' => w_as T.te_BadRule_BadRule fun a ha => ?_⟩⟩
      walk_at "v"
      refine c_isD (b := true) S' has0 (.own _) T.kit_BadRule_CountsheldError ?_
      walk_at "v"
      exact R _ S'.tail
--needs law_forms
/-! law_faulty -/
--needs law_forms
/-! texts that are no rules -/
/-- these parts ahead, each with a blank behind it -/
def jp : List Str → Str → Str
  | [], x => x
  | t :: ts, x => t ++ (sps ++ jp ts x)
theorem jp_join : ∀ {ts us : List Str}, us ≠ [] → Str.join sps (ts ++ us) = jp ts (Str.join sps us)
  | [], us, _ => rfl
  | t :: ts, us, h => by
    show Str.join sps (t :: (ts ++ us)) = t ++ (sps ++ jp ts (Str.join sps us))
    rw [jn_cons (by simp [h]), jp_join h]
theorem split_jp {ts : List Str} {x : Str} (h : ∀ p ∈ ts, 32 ∉ p.cps.toList) : Txt.split (jp ts x) ⟨#[32]⟩ = ts ++ Txt.split x ⟨#[32]⟩ := by
  refine split_is ?_ (by simp [split_nn]) fun p hp => ?_
  · rw [jp_join (split_nn x _), StrLaws.join_split]
  · rcases List.mem_append.1 hp with hp | hp
    · exact h p hp
    · exact StrLaws.split_free x 32 p hp
theorem split_word {x : Str} (h : 32 ∉ x.cps.toList) : Txt.split x ⟨#[32]⟩ = [x] := split_is rfl (by simp) fun p hp => by rw [List.mem_singleton.1 hp]; exact h
theorem jp_of : ∀ {us : List Str} {z : Str}, us ≠ [] → Str.join sps us ++ (sps ++ z) = jp us z
  | [u], z, _ => rfl
  | u :: v :: us, z, _ => by
    rw [jn_cons (by simp)]
    show u ++ (sps ++ Str.join sps (v :: us)) ++ (sps ++ z) = u ++ (sps ++ jp (v :: us) z)
    rw [← jp_of (us := v :: us) (by simp)]
    simp only [str_asc]
theorem nm_join {ks : List Str} (h : ks ≠ []) : nmT ks = Str.join sps (inter ks) := by rw [jn_inter h]; exact TL.join_eq _ _
theorem nm_sp {ks : List Str} {z : Str} (h : ks ≠ []) : nmT ks ++ (sps ++ z) = jp (inter ks) z := by rw [nm_join h]; exact jp_of (inter_nn h)
theorem split_nm {ks : List Str} (h : ks ≠ []) (hw : ∀ w ∈ ks, Wd w) : Txt.split (nmT ks) ⟨#[32]⟩ = inter ks := by rw [nm_join h]; exact split_is rfl (inter_nn h) (inter_nsp hw)
/-- the parts ahead of the number -/
def hdT : Nat → Nat → List Str
  | 0, _ => ["at", "least"]
  | 1, _ => ["at", "most"]
  | 2, a => ["from", dig a, "to"]
  | _ + 3, _ => ["exactly"]
def hdS : Nat → Nat → Str
  | 0, _ => "at least "
  | 1, _ => "at most "
  | 2, a => "from " ++ dig a ++ " to "
  | _ + 3, _ => "exactly "
def dgN : Nat → Nat → Nat → Nat
  | 0, a, _ => a
  | 1, _, b => b
  | 2, _, b => b
  | _ + 3, a, _ => a
theorem fT_hd (a b : Nat) (ks : List Str) : ∀ m, fT a b ks m = hdS m a ++ dig (dgN m a b) ++ " " ++ nmT ks
  | 0 => rfl
  | 1 => rfl
  | 2 => rfl
  | _ + 3 => rfl
theorem hd_jp (a : Nat) (x : Str) : ∀ m, hdS m a ++ x = jp (hdT m a) x := by
  have e1 : ("at least " : Str) = "at" ++ (sps ++ ("least" ++ sps)) := by decide +kernel
  have e2 : ("at most " : Str) = "at" ++ (sps ++ ("most" ++ sps)) := by decide +kernel
  have e3 : ("from " : Str) = "from" ++ sps := by decide +kernel
  have e4 : (" to " : Str) = sps ++ ("to" ++ sps) := by decide +kernel
  have e5 : ("exactly " : Str) = "exactly" ++ sps := by decide +kernel
  intro m
  match m with
  | 0 => simp only [hdS, hdT, jp, e1, str_asc]
  | 1 => simp only [hdS, hdT, jp, e2, str_asc]
  | 2 => simp only [hdS, hdT, jp, e3, e4, str_asc]
  | m + 3 => simp only [hdS, hdT, jp, e5, str_asc]
theorem hd_nsp (a : Nat) : ∀ m, ∀ p ∈ hdT m a, 32 ∉ p.cps.toList := by
  intro m p hp
  match m, hp with
  | 0, hp =>
    simp only [hdT, List.mem_cons, List.not_mem_nil, or_false] at hp
    rcases hp with rfl | rfl
    · exact lit_nsp _ (by simp)
    · exact lit_nsp _ (by simp)
  | 1, hp =>
    simp only [hdT, List.mem_cons, List.not_mem_nil, or_false] at hp
    rcases hp with rfl | rfl
    · exact lit_nsp _ (by simp)
    · exact lit_nsp _ (by simp)
  | 2, hp =>
    simp only [hdT, List.mem_cons, List.not_mem_nil, or_false] at hp
    rcases hp with rfl | rfl | rfl
    · exact lit_nsp _ (by simp)
    · exact dig_nsp a
    · exact lit_nsp _ (by simp)
  | m + 3, hp =>
    simp only [hdT, List.mem_cons, List.not_mem_nil, or_false] at hp
    subst hp
    exact lit_nsp _ (by simp)
/-- no rule is written so -/
def NoR (ts : List Str) : Prop := ¬ ∃ m a b us, Wr ts m a b us
/-- what stands behind the parts ahead -/
def Rest (r : List Str) : Prop := ∃ (n : Nat) (us : List Str), n < 10 ∧ us ≠ [] ∧ (∀ w ∈ us, Wd w) ∧ r = dig n :: inter us
theorem hd_wr {m a0 : Nat} {r : List Str} {m' a b : Nat} {us : List Str} (h : Wr (hdT m a0 ++ r) m' a b us) : Rest r := by
  have h' := h
  obtain ⟨_, ha, hb, _, hn, hw⟩ := h'
  match m, h with
  | 0, h =>
    rcases wr_at h with ⟨_, _, e⟩ | ⟨_, _, e⟩
    · exact ⟨a, us, ha, hn, hw, e⟩
    · exact ⟨b, us, hb, hn, hw, e⟩
  | 1, h =>
    rcases wr_at h with ⟨_, _, e⟩ | ⟨_, _, e⟩
    · exact ⟨a, us, ha, hn, hw, e⟩
    · exact ⟨b, us, hb, hn, hw, e⟩
  | 2, h =>
    obtain ⟨_, e⟩ := wr_from h
    exact ⟨b, us, hb, hn, hw, (List.cons.inj (List.cons.inj e).2).2⟩
  | m + 3, h =>
    obtain ⟨_, e⟩ := wr_ex h
    exact ⟨a, us, ha, hn, hw, e⟩
theorem no_hd {m a : Nat} {x : Str} (h : ¬ Rest (Txt.split x ⟨#[32]⟩)) : NoR (Txt.split (hdS m a ++ x) ⟨#[32]⟩) := by
  rw [hd_jp, split_jp (hd_nsp a m)]
  exact fun ⟨_, _, _, _, z⟩ => h (hd_wr z)
theorem wr_head {t : Str} {r : List Str} {m a b : Nat} {us : List Str} (h : Wr (t :: r) m a b us) : t = "at" ∨ t = "from" ∨ t = "exactly" := by
  obtain ⟨h4, _, _, e, _⟩ := h
  match m, h4, e with
  | 0, _, e => exact .inl (List.cons.inj e).1
  | 1, _, e => exact .inl (List.cons.inj e).1
  | 2, _, e => exact .inr (.inl (List.cons.inj e).1)
  | 3, _, e => exact .inr (.inr (List.cons.inj e).1)
theorem wd_dig {n : Nat} : ¬ Wd (dig n) ∨ 10 ≤ n := by
  by_cases h : n < 10
  · refine .inl fun z => ?_
    have h1 := z.2.2 (48 + n) (by exact List.mem_cons_self)
    have h2 : ∀ n : Fin 10, (48 + n.val) ∉ abc := by decide +kernel
    exact h2 ⟨n, h⟩ h1
  · exact .inr (by omega)
/-! what stands at the places of words and signs -/
theorem inter_even {us : List Str} {k : Nat} {x : Str} (h : (inter us)[2 * k]? = some x) : x ∈ us := by
  rw [← ev_get, ev_inter] at h
  exact List.mem_of_getElem? h
theorem inter_odd {us : List Str} {k : Nat} {x : Str} (h : (inter us)[2 * k + 1]? = some x) : x = "+" := by
  have h1 : (ev ((inter us).drop 1))[k]? = some x := by
    rw [ev_get, List.getElem?_drop, Nat.add_comm]; exact h
  rw [ev_inter1] at h1
  exact (List.mem_replicate.1 (List.mem_of_getElem? h1)).2
theorem inter_len : ∀ {us : List Str}, us ≠ [] → (inter us).length = 2 * us.length - 1
  | [u], _ => rfl
  | u :: v :: us, _ => by
    have h := inter_len (us := v :: us) (by simp)
    show (inter (v :: us)).length + 1 + 1 = _
    rw [h]
    simp only [List.length_cons]
    omega
theorem bad_part {n : Nat} {d t : Str} {r : List Str} (ht : t ∈ r) (hn : ¬ Wd t) (hp : t ≠ "+") : ¬ Rest (d :: r) := by
  rintro ⟨_, us, _, _, hw, e⟩
  rw [(List.cons.inj e).2] at ht
  rcases inter_mem ht with h | h
  · exact hn (hw t h)
  · exact hp h
theorem bad_num {d : Str} {r : List Str} (h : ∀ n, n < 10 → d ≠ dig n) : ¬ Rest (d :: r) := by
  rintro ⟨n, _, hn, _, _, e⟩
  exact h n hn (List.cons.inj e).1
theorem nwd_empty : ¬ Wd "" := fun h => absurd h.1 (by decide)
theorem nwd_plus : ¬ Wd "+" := fun h => absurd (h.2.2 43 (by decide +kernel)) (by decide +kernel)
theorem nwd_nine : ¬ Wd "aaaaaaaaa" := fun h => absurd h.2.1 (by decide +kernel)
theorem sp1 {t y : Str} (h : 32 ∉ t.cps.toList) : Txt.split (t ++ (sps ++ y)) ⟨#[32]⟩ = t :: Txt.split y ⟨#[32]⟩ := split_jp (ts := [t]) fun p hp => by rw [List.mem_singleton.1 hp]; exact h
def lpre : Nat → Str
  | 0 => "at "
  | 1 => "at "
  | 2 => "from 1 till "
  | _ + 3 => "exact "
/-- the nineteen texts -/
def fR (m a d : Nat) (ks : List Str) : Nat → Str
  | 0 => ""
  | 1 => " " ++ (hdS m a ++ dig d ++ " " ++ nmT ks)
  | 2 => hdS m a ++ dig d ++ " " ++ nmT ks ++ " "
  | 3 => hdS m a ++ dig d ++ " " ++ " " ++ nmT ks
  | 4 => hdS m a ++ "1" ++ dig d ++ " " ++ nmT ks
  | 5 => hdS m a ++ "+" ++ dig d ++ " " ++ nmT ks
  | 6 => hdS m a ++ nmT ks
  | 7 => hdS m a ++ dig d ++ " "
  | 8 => hdS m a ++ dig d
  | 9 => hdS m a ++ dig d ++ " " ++ nmT ks ++ " +"
  | 10 => hdS m a ++ dig d ++ " " ++ "+ " ++ nmT ks
  | 11 => hdS m a ++ dig d ++ " " ++ nmT ks ++ " + "
  | 12 => hdS m a ++ dig d ++ " " ++ nmT ks ++ " and more"
  | 13 => hdS m a ++ dig d ++ " " ++ Txt.upper (nmT ks)
  | 14 => hdS m a ++ dig d ++ " " ++ nmT ks ++ "\n"
  | 15 => hdS m a ++ "x " ++ nmT ks
  | 16 => hdS m a ++ dig d ++ " " ++ "aaaaaaaaa"
  | 17 => hdS m a ++ dig d ++ " " ++ nmT ks ++ " + +"
  | _ + 18 => lpre m ++ dig d ++ " " ++ nmT ks
theorem blank0 : (" " : Str) = sps := by decide +kernel
theorem app_e (x : Str) : x ++ "" = x := str_eq_of (by rw [cps_app]; exact List.append_nil _)
theorem nsp_word (t : Str) (h : t ∈ (["", "+", "and", "more", "aaaaaaaaa", "x", "1", "from", "at", "till", "exact"] : List Str)) : 32 ∉ t.cps.toList := by
  have : ∀ t ∈ (["", "+", "and", "more", "aaaaaaaaa", "x", "1", "from", "at", "till", "exact"] : List Str), 32 ∉ t.cps.toList := by decide +kernel
  exact this t h
theorem cons_of {ks : List Str} (h : ks ≠ []) : ∃ w l, inter ks = w :: l ∧ w ∈ ks := by
  match ks, h with
  | [k], _ => exact ⟨k, [], rfl, List.mem_cons_self⟩
  | k :: l :: ks, _ => exact ⟨k, _, rfl, List.mem_cons_self⟩
section
variable {m a d : Nat} {ks : List Str}
theorem fR0 : NoR (Txt.split "" ⟨#[32]⟩) := by
  rw [split_word (nsp_word "" (by simp))]
  rintro ⟨_, _, _, _, h⟩
  rcases wr_head h with z | z | z <;> exact absurd z (by decide +kernel)
theorem fR1 {x : Str} : NoR (Txt.split (" " ++ x) ⟨#[32]⟩) := by
  have e : " " ++ x = ("" : Str) ++ (sps ++ x) := by rw [blank0]; exact str_eq_of (by simp only [cps_app]; rfl)
  rw [e, sp1 (nsp_word "" (by simp))]
  rintro ⟨_, _, _, _, h⟩
  rcases wr_head h with z | z | z <;> exact absurd z (by decide +kernel)
theorem fR2 (hk : ks ≠ []) (hw : ∀ w ∈ ks, Wd w) : NoR (Txt.split (hdS m a ++ dig d ++ " " ++ nmT ks ++ " ") ⟨#[32]⟩) := by
  have e : hdS m a ++ dig d ++ " " ++ nmT ks ++ " " = hdS m a ++ (dig d ++ (sps ++ (nmT ks ++ (sps ++ "")))) := by simp only [blank0, app_e, str_asc]
  rw [e]
  refine no_hd ?_
  rw [sp1 (dig_nsp d), nm_sp hk, split_jp (inter_nsp hw), split_word (nsp_word "" (by simp))]
  exact bad_part (n := 0) (List.mem_append_right _ (List.mem_singleton.2 rfl)) nwd_empty (by decide +kernel)
theorem fR3 : NoR (Txt.split (hdS m a ++ dig d ++ " " ++ " " ++ nmT ks) ⟨#[32]⟩) := by
  have e : hdS m a ++ dig d ++ " " ++ " " ++ nmT ks = hdS m a ++ (dig d ++ (sps ++ ("" ++ (sps ++ nmT ks)))) := by
    have e1 : ("" : Str) ++ (sps ++ nmT ks) = sps ++ nmT ks := str_eq_of (by simp only [cps_app]; rfl)
    rw [e1]; simp only [blank0, str_asc]
  rw [e]
  refine no_hd ?_
  rw [sp1 (dig_nsp d), sp1 (nsp_word "" (by simp))]
  exact bad_part (n := 0) List.mem_cons_self nwd_empty (by decide +kernel)
theorem fR45 {x : Str} {c : Nat} (hc : c ≠ 32) (hx : x = ⟨#[c]⟩) : NoR (Txt.split (hdS m a ++ x ++ dig d ++ " " ++ nmT ks) ⟨#[32]⟩) := by
  have e : hdS m a ++ x ++ dig d ++ " " ++ nmT ks = hdS m a ++ ((x ++ dig d) ++ (sps ++ nmT ks)) := by simp only [blank0, str_asc]
  rw [e]
  refine no_hd ?_
  have hs : 32 ∉ (x ++ dig d).cps.toList := by
    rw [cps_app, hx]
    intro z
    rcases List.mem_append.1 z with z | z
    · exact hc (List.mem_singleton.1 z).symm
    · exact dig_nsp d z
  rw [sp1 hs]
  refine bad_num fun n _ z => ?_
  have h := congrArg (fun t : Str => t.cps.toList.length) z
  simp only [cps_app, List.length_append, hx] at h
  revert h
  simp [dig]
theorem fR6 (hk : ks ≠ []) (hw : ∀ w ∈ ks, Wd w) : NoR (Txt.split (hdS m a ++ nmT ks) ⟨#[32]⟩) := by
  refine no_hd ?_
  rw [split_nm hk hw]
  obtain ⟨w, l, e, hm⟩ := cons_of hk
  rw [e]
  refine bad_num fun n hn z => ?_
  have h := hw w hm
  rw [z] at h
  rcases wd_dig (n := n) with g | g
  · exact g h
  · omega
theorem fR7 : NoR (Txt.split (hdS m a ++ dig d ++ " ") ⟨#[32]⟩) := by
  have e : hdS m a ++ dig d ++ " " = hdS m a ++ (dig d ++ (sps ++ "")) := by simp only [blank0, app_e, str_asc]
  rw [e]
  refine no_hd ?_
  rw [sp1 (dig_nsp d), split_word (nsp_word "" (by simp))]
  exact bad_part (n := 0) (List.mem_singleton.2 rfl) nwd_empty (by decide +kernel)
theorem fR8 : NoR (Txt.split (hdS m a ++ dig d) ⟨#[32]⟩) := by
  refine no_hd ?_
  rw [split_word (dig_nsp d)]
  rintro ⟨n, us, _, hn, _, e⟩
  exact inter_nn hn (List.cons.inj e).2.symm
theorem fR9 (hk : ks ≠ []) (hw : ∀ w ∈ ks, Wd w) : NoR (Txt.split (hdS m a ++ dig d ++ " " ++ nmT ks ++ " +") ⟨#[32]⟩) := by
  have e1 : (" +" : Str) = sps ++ "+" := by decide +kernel
  have e : hdS m a ++ dig d ++ " " ++ nmT ks ++ " +" = hdS m a ++ (dig d ++ (sps ++ (nmT ks ++ (sps ++ "+")))) := by simp only [blank0, e1, str_asc]
  rw [e]
  refine no_hd ?_
  rw [sp1 (dig_nsp d), nm_sp hk, split_jp (inter_nsp hw), split_word (nsp_word "+" (by simp))]
  rintro ⟨n, us, _, hn, _, e⟩
  have h := congrArg List.length (List.cons.inj e).2
  have h1 := List.length_pos_iff.2 hn
  have h2 := List.length_pos_iff.2 hk
  rw [List.length_append, inter_len hn, inter_len hk] at h
  simp only [List.length_cons, List.length_nil] at h
  omega
theorem fR10 : NoR (Txt.split (hdS m a ++ dig d ++ " " ++ "+ " ++ nmT ks) ⟨#[32]⟩) := by
  have e1 : ("+ " : Str) = "+" ++ sps := by decide +kernel
  have e : hdS m a ++ dig d ++ " " ++ "+ " ++ nmT ks = hdS m a ++ (dig d ++ (sps ++ ("+" ++ (sps ++ nmT ks)))) := by simp only [blank0, e1, str_asc]
  rw [e]
  refine no_hd ?_
  rw [sp1 (dig_nsp d), sp1 (nsp_word "+" (by simp))]
  rintro ⟨n, us, _, _, hw, e⟩
  have h : (inter us)[2 * 0]? = some ("+" : Str) := by rw [← (List.cons.inj e).2]; rfl
  exact nwd_plus (hw _ (inter_even h))
theorem fR11 (hk : ks ≠ []) (hw : ∀ w ∈ ks, Wd w) : NoR (Txt.split (hdS m a ++ dig d ++ " " ++ nmT ks ++ " + ") ⟨#[32]⟩) := by
  have e1 : (" + " : Str) = sps ++ ("+" ++ (sps ++ "")) := by decide +kernel
  have e : hdS m a ++ dig d ++ " " ++ nmT ks ++ " + " = hdS m a ++ (dig d ++ (sps ++ (nmT ks ++ (sps ++ ("+" ++ (sps ++ "")))))) := by simp only [blank0, e1, str_asc]
  rw [e]
  refine no_hd ?_
  rw [sp1 (dig_nsp d), nm_sp hk, split_jp (inter_nsp hw), sp1 (nsp_word "+" (by simp)), split_word (nsp_word "" (by simp))]
  exact bad_part (n := 0) (List.mem_append_right _ (List.mem_cons_of_mem _ (List.mem_singleton.2 rfl))) nwd_empty (by decide +kernel)
theorem fR12 (hk : ks ≠ []) (hw : ∀ w ∈ ks, Wd w) : NoR (Txt.split (hdS m a ++ dig d ++ " " ++ nmT ks ++ " and more") ⟨#[32]⟩) := by
  have e1 : (" and more" : Str) = sps ++ ("and" ++ (sps ++ "more")) := by decide +kernel
  have e : hdS m a ++ dig d ++ " " ++ nmT ks ++ " and more" = hdS m a ++ (dig d ++ (sps ++ (nmT ks ++ (sps ++ ("and" ++ (sps ++ "more")))))) := by simp only [blank0, e1, str_asc]
  rw [e]
  refine no_hd ?_
  rw [sp1 (dig_nsp d), nm_sp hk, split_jp (inter_nsp hw), sp1 (nsp_word "and" (by simp)), split_word (nsp_word "more" (by simp))]
  rintro ⟨n, us, _, _, _, e⟩
  have h2 := List.length_pos_iff.2 hk
  have h : (inter us)[2 * (ks.length - 1) + 1]? = some ("and" : Str) := by
    rw [← (List.cons.inj e).2, List.getElem?_append_right (by rw [inter_len hk]; omega), inter_len hk, show 2 * (ks.length - 1) + 1 - (2 * ks.length - 1) = 0 by omega]
    rfl
  exact absurd (inter_odd h) (by decide +kernel)
theorem first_tok {x t : Str} {r : List Str} {c : Nat} {l : List Nat} (h : Txt.split x ⟨#[32]⟩ = t :: r) (hx : x.cps.toList = c :: l) (hc : c ≠ 32) : c ∈ t.cps.toList := by
  have e := split_jl x 32
  rw [h, hx] at e
  cases r with
  | nil =>
    have e' : t.cps.toList = c :: l := e
    rw [e']
    exact List.mem_cons_self
  | cons u r =>
    have e' : t.cps.toList ++ 32 :: jl 32 ((u :: r).map fun t => t.cps.toList) = c :: l := e
    cases ht : t.cps.toList with
    | nil =>
      rw [ht] at e'
      exact (hc (List.cons.inj e').1.symm).elim
    | cons y ys =>
      rw [ht] at e'
      rw [(List.cons.inj e').1]
      exact List.mem_cons_self
theorem str_cons {x : Str} {c : Nat} {l : List Nat} (h : x.cps.toList = c :: l) : x = ⟨#[c]⟩ ++ ⟨l.toArray⟩ := str_eq_of (by rw [cps_app, h]; rfl)
theorem nm_first (hk : ks ≠ []) (hw : ∀ w ∈ ks, Wd w) : ∃ c l, c ∈ abc ∧ (nmT ks).cps.toList = c :: l := by
  have h1 : ∀ {w : Str}, Wd w → ∃ c l, c ∈ abc ∧ w.cps.toList = c :: l := fun {w} h => by
    cases e : w.cps.toList with
    | nil =>
      have := h.1
      simp [Str.length, ← Array.length_toList, e] at this
    | cons c l => exact ⟨c, l, h.2.2 c (by rw [e]; exact List.mem_cons_self), rfl⟩
  rw [show nmT ks = Str.join " + " ks from TL.join_eq _ _]
  match ks, hk, hw with
  | [k], _, hw => exact h1 (hw k List.mem_cons_self)
  | k :: l :: ks, _, hw =>
    obtain ⟨c, r, hc, e⟩ := h1 (hw k List.mem_cons_self)
    refine ⟨c, r ++ (" + " : Str).cps.toList ++ (Str.join " + " (l :: ks)).cps.toList, hc, ?_⟩
    show (k ++ " + " ++ Str.join " + " (l :: ks)).cps.toList = _
    rw [cps_app, cps_app, e]
    rfl
theorem abc_rng {c : Nat} (h : c ∈ abc) : 97 ≤ c ∧ c ≤ 122 := by
  have : ∀ c ∈ abc, 97 ≤ c ∧ c ≤ 122 := by decide +kernel
  exact this c h
theorem fR13 (hk : ks ≠ []) (hw : ∀ w ∈ ks, Wd w) : NoR (Txt.split (hdS m a ++ dig d ++ " " ++ Txt.upper (nmT ks)) ⟨#[32]⟩) := by
  have e : hdS m a ++ dig d ++ " " ++ Txt.upper (nmT ks) = hdS m a ++ (dig d ++ (sps ++ Txt.upper (nmT ks))) := by simp only [blank0, str_asc]
  rw [e]
  refine no_hd ?_
  rw [sp1 (dig_nsp d)]
  obtain ⟨c, l, hc, en⟩ := nm_first hk hw
  have hr := abc_rng hc
  have eu : (Txt.upper (nmT ks)).cps.toList = (c - 32) :: (Txt.upper ⟨l.toArray⟩).cps.toList := by
    rw [str_cons en, PySem.W.KOpn.upper_app, PySem.W.KOpn.upper_one (by omega), if_pos hr, cps_app]
    rfl
  cases hs : Txt.split (Txt.upper (nmT ks)) ⟨#[32]⟩ with
  | nil => exact (split_nn _ _ hs).elim
  | cons t r =>
    have ht := first_tok hs eu (by omega)
    refine bad_part (n := 0) (t := t) List.mem_cons_self (fun z => ?_) fun z => ?_
    · have := abc_rng (z.2.2 _ ht)
      omega
    · rw [z] at ht
      have := List.mem_singleton.1 (show c - 32 ∈ [43] from ht)
      omega
theorem jp_app : ∀ {ts : List Str} {x y : Str}, jp ts x ++ y = jp ts (x ++ y)
  | [], _, _ => rfl
  | t :: ts, x, y => by
    show t ++ (sps ++ jp ts x) ++ y = t ++ (sps ++ jp ts (x ++ y))
    rw [← jp_app (ts := ts)]
    simp only [str_asc]
theorem fR14 (hk : ks ≠ []) (hw : ∀ w ∈ ks, Wd w) : NoR (Txt.split (hdS m a ++ dig d ++ " " ++ nmT ks ++ "\n") ⟨#[32]⟩) := by
  have e : hdS m a ++ dig d ++ " " ++ nmT ks ++ "\n" = hdS m a ++ (dig d ++ (sps ++ (nmT ks ++ "\n"))) := by simp only [blank0, str_asc]
  rw [e]
  refine no_hd ?_
  rw [sp1 (dig_nsp d)]
  have hi := inter_nn hk
  have hn : nmT ks ++ "\n" = jp (inter ks).dropLast ((inter ks).getLast hi ++ "\n") := by
    rw [nm_join hk]
    conv => lhs; rw [← List.dropLast_concat_getLast hi]
    rw [jp_join (by simp)]
    exact jp_app
  have nl : ("\n" : Str).cps.toList = [10] := by decide +kernel
  have hlast : 32 ∉ ((inter ks).getLast hi ++ "\n").cps.toList := by
    rw [cps_app, nl]
    intro z
    rcases List.mem_append.1 z with z | z
    · exact inter_nsp hw _ (List.getLast_mem hi) z
    · exact absurd (List.mem_singleton.1 z) (by decide)
  rw [hn, split_jp (fun p hp => inter_nsp hw p ((List.dropLast_sublist _).mem hp)), split_word hlast]
  have h10 : 10 ∈ ((inter ks).getLast hi ++ "\n").cps.toList := by
    rw [cps_app, nl]
    exact List.mem_append_right _ List.mem_cons_self
  refine bad_part (n := 0) (t := (inter ks).getLast hi ++ "\n") (List.mem_append_right _ (List.mem_singleton.2 rfl)) (fun z => ?_) fun z => ?_
  · have := abc_rng (z.2.2 _ h10)
    omega
  · rw [z] at h10
    exact absurd (List.mem_singleton.1 (show 10 ∈ [43] from h10)) (by decide)
theorem fR16 : NoR (Txt.split (hdS m a ++ dig d ++ " " ++ "aaaaaaaaa") ⟨#[32]⟩) := by
  have e : hdS m a ++ dig d ++ " " ++ "aaaaaaaaa" = hdS m a ++ (dig d ++ (sps ++ "aaaaaaaaa")) := by simp only [blank0, str_asc]
  rw [e]
  refine no_hd ?_
  rw [sp1 (dig_nsp d), split_word (nsp_word "aaaaaaaaa" (by simp))]
  exact bad_part (n := 0) (List.mem_singleton.2 rfl) nwd_nine (by decide +kernel)
theorem fR17 (hk : ks ≠ []) (hw : ∀ w ∈ ks, Wd w) : NoR (Txt.split (hdS m a ++ dig d ++ " " ++ nmT ks ++ " + +") ⟨#[32]⟩) := by
  have e1 : (" + +" : Str) = sps ++ ("+" ++ (sps ++ "+")) := by decide +kernel
  have e : hdS m a ++ dig d ++ " " ++ nmT ks ++ " + +" = hdS m a ++ (dig d ++ (sps ++ (nmT ks ++ (sps ++ ("+" ++ (sps ++ "+")))))) := by simp only [blank0, e1, str_asc]
  rw [e]
  refine no_hd ?_
  rw [sp1 (dig_nsp d), nm_sp hk, split_jp (inter_nsp hw), sp1 (nsp_word "+" (by simp)), split_word (nsp_word "+" (by simp))]
  rintro ⟨n, us, _, _, hu, e⟩
  have h2 := List.length_pos_iff.2 hk
  have h : (inter us)[2 * ks.length]? = some ("+" : Str) := by
    rw [← (List.cons.inj e).2, List.getElem?_append_right (by rw [inter_len hk]; omega), inter_len hk, show 2 * ks.length - (2 * ks.length - 1) = 1 by omega]
    rfl
  exact nwd_plus (hu _ (inter_even h))
theorem fR15 : NoR (Txt.split (hdS m a ++ "x " ++ nmT ks) ⟨#[32]⟩) := by
  have e1 : ("x " : Str) = "x" ++ sps := by decide +kernel
  have e : hdS m a ++ "x " ++ nmT ks = hdS m a ++ ("x" ++ (sps ++ nmT ks)) := by simp only [e1, str_asc]
  rw [e]
  refine no_hd ?_
  rw [sp1 (nsp_word "x" (by simp))]
  refine bad_num fun n hn z => ?_
  have h : ∀ n : Fin 10, ("x" : Str) ≠ dig n := by decide +kernel
  exact h ⟨n, hn⟩ z
theorem fR18 (hd : d < 10) (hk : ks ≠ []) : ∀ m, NoR (Txt.split (lpre m ++ dig d ++ " " ++ nmT ks) ⟨#[32]⟩) := by
  have hl : ∀ n : Fin 10, dig n ≠ ("least" : Str) ∧ dig n ≠ ("most" : Str) := by decide +kernel
  have h01 : NoR (Txt.split ("at " ++ dig d ++ " " ++ nmT ks) ⟨#[32]⟩) := by
    have e1 : ("at " : Str) = "at" ++ sps := by decide +kernel
    have e : "at " ++ dig d ++ " " ++ nmT ks = "at" ++ (sps ++ (dig d ++ (sps ++ nmT ks))) := by simp only [blank0, e1, str_asc]
    rw [e, sp1 (nsp_word "at" (by simp)), sp1 (dig_nsp d)]
    rintro ⟨_, _, _, _, h⟩
    rcases wr_at h with ⟨_, z, _⟩ | ⟨_, z, _⟩
    · exact (hl ⟨d, hd⟩).1 z
    · exact (hl ⟨d, hd⟩).2 z
  intro m
  match m with
  | 0 => exact h01
  | 1 => exact h01
  | 2 =>
    have e1 : ("from 1 till " : Str) = "from" ++ (sps ++ ("1" ++ (sps ++ ("till" ++ sps)))) := by decide +kernel
    have e : lpre 2 ++ dig d ++ " " ++ nmT ks = "from" ++ (sps ++ ("1" ++ (sps ++ ("till" ++ (sps ++ (dig d ++ (sps ++ nmT ks))))))) := by simp only [lpre, blank0, e1, str_asc]
    rw [e, sp1 (nsp_word "from" (by simp)), sp1 (nsp_word "1" (by simp)), sp1 (nsp_word "till" (by simp))]
    rintro ⟨_, _, _, _, h⟩
    obtain ⟨_, z⟩ := wr_from h
    exact absurd (List.cons.inj (List.cons.inj z).2).1 (by decide +kernel)
  | m + 3 =>
    have e1 : ("exact " : Str) = "exact" ++ sps := by decide +kernel
    have e : lpre (m + 3) ++ dig d ++ " " ++ nmT ks = "exact" ++ (sps ++ (dig d ++ (sps ++ nmT ks))) := by simp only [lpre, blank0, e1, str_asc]
    rw [e, sp1 (nsp_word "exact" (by simp))]
    rintro ⟨_, _, _, _, h⟩
    rcases wr_head h with z | z | z <;> exact absurd z (by decide +kernel)
theorem fR_no (hd : d < 10) (hk : ks ≠ []) (hw : ∀ w ∈ ks, Wd w) : ∀ c, NoR (Txt.split (fR m a d ks c) ⟨#[32]⟩)
  | 0 => fR0
  | 1 => fR1
  | 2 => fR2 hk hw
  | 3 => fR3
  | 4 => fR45 (c := 49) (by decide) (by decide +kernel)
  | 5 => fR45 (c := 43) (by decide) (by decide +kernel)
  | 6 => fR6 hk hw
  | 7 => fR7
  | 8 => fR8
  | 9 => fR9 hk hw
  | 10 => fR10
  | 11 => fR11 hk hw
  | 12 => fR12 hk hw
  | 13 => fR13 hk hw
  | 14 => fR14 hk hw
  | 15 => fR15
  | 16 => fR16
  | 17 => fR17 hk hw
  | _ + 18 => fR18 hd hk m
end
theorem hdS_len (a : Nat) : ∀ m, (hdS m a).length ≤ 12
  | 0 => by show ("at least " : Str).length ≤ 12; decide +kernel
  | 1 => by show ("at most " : Str).length ≤ 12; decide +kernel
  | 2 => by
    show (("from " : Str) ++ dig a ++ " to ").length ≤ 12
    have c3 : ("from " : Str).length = 5 := rfl
    have c4 : (" to " : Str).length = 4 := rfl
    have c5 : (dig a).length = 1 := rfl
    simp only [str_len_app]
    omega
  | _ + 3 => by show ("exactly " : Str).length ≤ 12; decide +kernel
def sp_law_faulty (K : PySem.W.Frag) : Sp := fun vs H Q _ => ∃ (c m a b : Nat) (ks : List Str) (fr : List Asn), vs = [.int c, .int m, .str (fT a b ks m), .str (nmT ks)] ∧ c < 19 ∧ m < 4 ∧ a < 10 ∧ b < 10 ∧ ks ≠ [] ∧ ks.length ≤ 4 ∧ (∀ w ∈ ks, Wd w) ∧ Sep fr H ∧
  ∀ (w : Str) H', w.length ≤ 800 → NoR (Txt.split w ⟨#[32]⟩) → Sep fr H' → Q (.str w) H'
theorem ok_law_faulty (T : Txt K mg A) : FnOk P w K mg base CX0 10 A.f_law_faulty A.fd_law_faulty ["choice", "mode", "text", "names"] (sp_law_faulty K) := by
  refine T.F_law_faulty.ok sc_law_faulty (fun vs H Q E h => ?_) (fun cdv A' outer s0 H vs Q E hr h => ?_)
  · obtain ⟨c, m, a, b, ks, fr, rfl, _⟩ := h
    rfl
  · obtain ⟨c, m, a, b, ks, fr, rfl, hc, hm, ha, hb, hk, hk4, hw, S, k⟩ := h
    have hd : dgN m a b < 10 := by
      match m with
      | 0 => exact ha
      | 1 => exact hb
      | 2 => exact hb
      | _ + 3 => exact ha
    have no := fR_no (m := m) (a := a) hd hk hw
    rw [fT_hd]
    have hS0 := hdS_len a m
    have hN : (nmT ks).length ≤ 44 := by
      have h1 := join_len (a := " + ") (fun w hx => (hw w hx).2.1)
      rw [show (" + " : Str).length = 3 from rfl] at h1
      have h2 : ks.length * 11 ≤ 4 * 11 := Nat.mul_le_mul_right _ hk4
      unfold nmT
      omega
    have hU : (Txt.upper (nmT ks)).length ≤ 132 := by have := PyProof.Rows.len_upper (nmT ks); omega
    generalize hS : hdS m a = S0 at hS0 ⊢
    generalize hdd : dgN m a b = d at *
    have hD : (dig d).length = 1 := rfl
    have ez : sizeLine = 16777216 := sizeLine_eq
    have l0 : ("" : Str).length = 0 := rfl
    have l1 : (" " : Str).length = 1 := rfl
    have l2 : ("1" : Str).length = 1 := rfl
    have l3 : ("+" : Str).length = 1 := rfl
    have l4 : (" +" : Str).length = 2 := rfl
    have l5 : ("+ " : Str).length = 2 := rfl
    have l6 : (" + " : Str).length = 3 := rfl
    have l7 : (" and more" : Str).length = 9 := rfl
    have l8 : ("\n" : Str).length = 1 := rfl
    have l9 : ("x " : Str).length = 2 := rfl
    have l10 : ("aaaaaaaaa" : Str).length = 9 := rfl
    have l11 : (" + +" : Str).length = 4 := rfl
    have lp : ∀ m, (lpre m).length ≤ 12 := fun m => by
      match m with
      | 0 => decide +kernel
      | 1 => decide +kernel
      | 2 => decide +kernel
      | m + 3 => show ("exact " : Str).length ≤ 12; decide +kernel
    have hT : (S0 ++ dig d ++ " " ++ nmT ks).length = S0.length + 1 + 1 + (nmT ks).length := by simp only [str_len_app]; omega
    have hR : (S0 ++ dig d ++ " ").length = S0.length + 1 + 1 := by simp only [str_len_app]; omega
    refine ⟨_, (pss_cons (ps_set (i := 4) sc_law_faulty.nd rfl (.inl rfl) (pe_slice (sl_g (K := K) rfl) (pv 2) po_none (po_some (pe_op op_gSub (pe_callB (call_gLen (K := K) rfl) (by rfl) T.n_len (by decide +kernel) (pa_cons (pv 2) pa_nil)) (pe_callB (call_gLen (K := K) rfl) (by rfl) T.n_len (by decide +kernel) (pa_cons (pv 3) pa_nil))))))
      (pss_cons (ps_set (i := 5) sc_law_faulty.nd rfl (.inl rfl) (pe_ix (ix_g (K := K) rfl) (pv 4) (pe_un un_gNeg pe_int) (fun _ _ => rfl)))
      (pss_cons (ps_set (i := 6) sc_law_faulty.nd rfl (.inl rfl) (pe_slice (sl_g (K := K) rfl) (pv 4) po_none (po_some (pe_un un_gNeg pe_int))))
      (pss_cons (ps_set (i := 7) sc_law_faulty.nd rfl (.inl rfl) (pe_lst (pa_cons pe_str (pa_cons (pe_op op_gAdd pe_str (pv 2)) (pa_cons (pe_op op_gAdd (pv 2) pe_str) (pa_cons (pe_op op_gAdd (pe_op op_gAdd (pv 4) pe_str) (pv 3)) (pa_cons (pe_op op_gAdd (pe_op op_gAdd (pe_op op_gAdd (pe_op op_gAdd (pv 6) pe_str) (pv 5)) pe_str) (pv 3)) (pa_cons (pe_op op_gAdd (pe_op op_gAdd (pe_op op_gAdd (pv 6) pe_str) (pv 5)) pe_str) pa_nil))))))))
      (pss_cons (ps_asg (pe_op op_gAdd (pe_ix (ix_g (K := K) rfl) (pv 7) pe_int (fun _ _ => rfl)) (pv 3)) (pg_sub (pv 7) pe_int set_list))
      (pss_cons (ps_set (i := 7) sc_law_faulty.nd rfl (.inl rfl) (pe_op op_gAdd (pv 7) (pe_lst (pa_cons (pe_op op_gAdd (pv 6) (pv 3)) (pa_cons (pv 4) (pa_cons (pe_slice (sl_g (K := K) rfl) (pv 4) po_none (po_some (pe_un un_gNeg pe_int))) (pa_cons (pe_op op_gAdd (pv 2) pe_str) (pa_cons (pe_op op_gAdd (pe_op op_gAdd (pv 4) pe_str) (pv 3)) (pa_cons (pe_op op_gAdd (pv 2) pe_str) (pa_cons (pe_op op_gAdd (pv 2) pe_str) pa_nil))))))))))
      (pss_cons (ps_set (i := 7) sc_law_faulty.nd rfl (.inl rfl) (pe_op op_gAdd (pv 7) (pe_lst (pa_cons (pe_op op_gAdd (pv 4) (pe_gBm0 (K := K) rfl PySem.F.plainAttrs_str PySem.F.slot_str_upper PySem.F.type_str_upper mt_gUpper (pv 3))) (pa_cons (pe_op op_gAdd (pv 2) pe_str) (pa_cons (pe_op op_gAdd (pe_op op_gAdd (pv 6) pe_str) (pv 3)) (pa_cons (pe_op op_gAdd (pv 4) pe_str) (pa_cons (pe_op op_gAdd (pv 2) pe_str) pa_nil))))))))
      (pss_cons (ps_set (i := 7) sc_law_faulty.nd rfl (.inl rfl) (pe_op op_gAdd (pv 7) (pe_lst (pa_cons (pe_op op_gAdd (pe_op op_gAdd (pe_op op_gAdd (pe_ix (ix_g (K := K) rfl) (pe_lst (pa_cons pe_str (pa_cons pe_str (pa_cons pe_str (pa_cons pe_str pa_nil))))) (pv 1) (fun _ _ => rfl)) (pv 5)) pe_str) (pv 3)) pa_nil))))
      (pss_one (ps_ret (pe_ix (ix_g (K := K) rfl) (pv 7) (pv 0) (fun _ _ => rfl)))))))))))), ?_⟩
    walk_at "v"
    refine c_lenS (by omega) ?_
    walk_at "v"
    refine c_lenS (by omega) ?_
    walk_at "v"
    refine s_str (by omega) ?_
    rw [hT, show ((S0.length + 1 + 1 + (nmT ks).length : Nat) : Int) - ((nmT ks).length : Int) = ((S0.length + 1 + 1 : Nat) : Int) by omega, cutS_n hR.symm]
    walk_at "v"
    refine x_str (by omega) (c := 48 + d) ?_ ?_
    · have e : (S0 ++ dig d ++ " ").cps.toList = S0.cps.toList ++ [48 + d, 32] := by
        rw [cps_app, cps_app, List.append_assoc]; rfl
      rw [e]
      exact at_m2
    rw [show (⟨#[48 + d]⟩ : Str) = dig d from rfl]
    walk_at "v"
    refine s_str (by omega) ?_
    have e2 : cutS (S0 ++ dig d ++ " ") none (some (-2)) = S0 := by
      rw [str_asc]
      exact cutS_m (n := 2) rfl (by decide)
    have e1 : cutS (S0 ++ dig d ++ " ") none (some (-1)) = S0 ++ dig d := cutS_m (n := 1) rfl (by decide)
    rw [e2]
    walk_at "v"
    repeat (refine o_addS (by (try simp only [str_len_app]); omega) ?_; walk_at "v")
    refine s_str (by omega) ?_
    rw [e1]
    walk_at "v"
    repeat (refine o_addS (by (try simp only [str_len_app]); omega) ?_; walk_at "v")
    rename_i q1 H1 S1
    refine o_cat S1 (hasS has0) has0 (by rw [ez]; simp) fun p2 H2 S2 => ?_
    have S3 := S2.drops [1, 1]
    simp only [Y.drops, List.eraseIdx] at S3
    clear S2 S1
    walk_at "v"
    unfold tBM0
    walk_at "v"
    refine m_tyS ?_
    refine m_upper (by omega) ?_
    walk_at "v"
    repeat (refine o_addS (by (try simp only [str_len_app]); omega) ?_; walk_at "v")
    rename_i q2 H4 S4
    refine o_cat S4 (hasS has0) has0 (by rw [ez]; simp) fun p3 H5 S5 => ?_
    have S6 := S5.drops [1, 1]
    simp only [Y.drops, List.eraseIdx] at S6
    clear S3 S4 S5
    walk_at "v"
    rename_i q3 H7 S7
    have hl : ([V.str "at ", V.str "at ", V.str "from 1 till ", V.str "exact "] : List V)[m]? = some (V.str (lpre m)) := by
      have h4 : m = 0 ∨ m = 1 ∨ m = 2 ∨ m = 3 := by omega
      rcases h4 with rfl | rfl | rfl | rfl <;> rfl
    refine x_lst S7 has0 (at_natR hl) ?_
    have hlp := lp m
    walk_at "v"
    repeat (refine o_addS (by (try simp only [str_len_app]); omega) ?_; walk_at "v")
    rename_i q4 H8 S8
    refine o_cat S8 (hasS (hasS has0)) has0 (by rw [ez]; simp) fun p4 H9 S9 => ?_
    have S10 := S9.drops [1, 1, 1]
    simp only [Y.drops, List.eraseIdx] at S10
    clear S6 S7 S8 S9
    walk_at "v"
    have h19 : c = 0 ∨ c = 1 ∨ c = 2 ∨ c = 3 ∨ c = 4 ∨ c = 5 ∨ c = 6 ∨ c = 7 ∨ c = 8 ∨ c = 9 ∨ c = 10 ∨ c = 11 ∨ c = 12 ∨ c = 13 ∨ c = 14 ∨ c = 15 ∨ c = 16 ∨ c = 17 ∨ c = 18 := by omega
    subst hS
    refine x_lst S10 has0 (v := .str (fR m a d ks c)) (at_natR ?_) ?_
    · rcases h19 with rfl | rfl | rfl | rfl | rfl | rfl | rfl | rfl | rfl | rfl | rfl | rfl | rfl | rfl | rfl | rfl | rfl | rfl | rfl <;> rfl
    · have hlen : (fR m a d ks c).length ≤ 800 := by
        have hlp := lp m
        rcases h19 with rfl | rfl | rfl | rfl | rfl | rfl | rfl | rfl | rfl | rfl | rfl | rfl | rfl | rfl | rfl | rfl | rfl | rfl | rfl <;> simp only [fR, str_len_app] <;> omega
      exact k _ _ hlen (no c) S10.tail
theorem c_faulty {K : PySem.W.Frag} {l : List Asn} {H : Hp} {c m a b : Nat} {ks : List Str} {Q : VK} {E : XK} (S : Sep l H) (hc : c < 19) (hm : m < 4) (ha : a < 10) (hb : b < 10) (hk : ks ≠ []) (hz : ks.length ≤ 4) (hw : ∀ w ∈ ks, Wd w)
    (k : ∀ (w : Str) H', w.length ≤ 800 → NoR (Txt.split w ⟨#[32]⟩) → Sep l H' → Q (.str w) H') : sp_law_faulty K [.int c, .int m, .str (fT a b ks m), .str (nmT ks)] H Q E := ⟨c, m, a, b, ks, l, rfl, hc, hm, ha, hb, hk, hz, hw, S, k⟩
/-! law_no_string -/
def sp_law_no_string (K : PySem.W.Frag) : Sp := fun vs H Q _ => ∃ (c : Nat) (fr : List Asn), vs = [.int c] ∧ c < 7 ∧ Sep fr H ∧ ∀ x H', (∃ t, TyX K H' x t ∧ PySem.W.kitOne K t (.type "str") = some false) → Sep fr H' → Q x H'
theorem ok_law_no_string (T : Txt K mg A) : FnOk P w K mg base CX0 1 A.f_law_no_string A.fd_law_no_string ["choice"] (sp_law_no_string K) := by
  refine T.F_law_no_string.ok sc_law_no_string (fun vs H Q E h => ?_) (fun cdv A' outer s0 H vs Q E hr h => ?_)
  · obtain ⟨c, fr, rfl, _⟩ := h
    rfl
  · obtain ⟨c, fr, rfl, hc, S, k⟩ := h
    refine ⟨_, (pss_one (ps_ret (pe_ix (ix_g (K := K) rfl) (pe_lst (pa_cons pe_non (pa_cons pe_int (pa_cons pe_bl (pa_cons (pe_lst (pa_cons pe_str pa_nil)) (pa_cons (pe_tup (pa_cons pe_str pa_nil)) (pa_cons (pe_op op_gPow pe_int pe_int) (pa_cons (pe_lst pa_nil) pa_nil)))))))) (pv 0) (fun _ _ => rfl)))), ?_⟩
    walk_at "v"
    rename_i p3 Ha Sa p2 Hb Sb p1 Hc Sc p0 Hd Sd
    have S9 : Sep fr Hd := Sd.tail.tail.tail.tail
    have h7 : c = 0 ∨ c = 1 ∨ c = 2 ∨ c = 3 ∨ c = 4 ∨ c = 5 ∨ c = 6 := by omega
    rcases h7 with rfl | rfl | rfl | rfl | rfl | rfl | rfl
    · exact x_lst Sd has0 (v := .non) rfl (k _ _ ⟨_, .base .non, kit_ty (by decide +kernel)⟩ S9)
    · exact x_lst Sd has0 (v := .int 5) rfl (k _ _ ⟨_, .base (.int _), kit_ty (by decide +kernel)⟩ S9)
    · exact x_lst Sd has0 (v := .bl true) rfl (k _ _ ⟨_, .base (.bl _), kit_ty (by decide +kernel)⟩ S9)
    · exact x_lst Sd has0 (v := .ref p3) rfl (k _ _ ⟨_, .base (.lst (Sd.at (i := 3) rfl)), kit_ty (by decide +kernel)⟩ S9)
    · exact x_lst Sd has0 (v := .ref p2) rfl (k _ _ ⟨_, .base (.tup (Sd.tp (i := 2) rfl)), kit_ty (by decide +kernel)⟩ S9)
    · exact x_lst Sd has0 (v := .int (10 ^ 29)) rfl (k _ _ ⟨_, .base (.int _), kit_ty (by decide +kernel)⟩ S9)
    · exact x_lst Sd has0 (v := .ref p1) rfl (k _ _ ⟨_, .base (.lst (Sd.at (i := 1) rfl)), kit_ty (by decide +kernel)⟩ S9)
theorem c_no_string {K : PySem.W.Frag} {l : List Asn} {H : Hp} {c : Nat} {Q : VK} {E : XK} (S : Sep l H) (hc : c < 7) (k : ∀ x H', (∃ t, TyX K H' x t ∧ PySem.W.kitOne K t (.type "str") = some false) → Sep l H' → Q x H') : sp_law_no_string K [.int c] H Q E := ⟨c, l, rfl, hc, S, k⟩
/-! law -/
--needs law_forms read_rule law_faulty
theorem ver_good {m a b : Nat} {ks : List Str} (ha : a < 10) (hb : b < 10) (hab : a ≤ b) (hk : Kds ks) : ¬ BadN (wnums m a b) ∧ ¬ BadK (ks.map V.str) := by
  have ok : ∀ n : Nat, n < 10 → okN (.int n) := fun n h => ⟨n, rfl, by omega, by omega⟩
  constructor
  · match m with
    | 0 => rintro (⟨x, hx, q⟩ | ⟨_, _, z, _⟩)
           · rw [List.mem_singleton.1 hx] at q; exact q (ok a ha)
           · cases z
    | 1 => rintro (⟨x, hx, q⟩ | ⟨_, _, z, _⟩)
           · rw [List.mem_singleton.1 hx] at q; exact q (ok b hb)
           · cases z
    | 2 => rintro (⟨x, hx, q⟩ | ⟨_, _, z, h⟩)
           · rcases List.mem_cons.1 hx with rfl | hx
             · exact q (ok a ha)
             · rw [List.mem_singleton.1 hx] at q; exact q (ok b hb)
           · cases z; omega
    | m + 3 => rintro (⟨x, hx, q⟩ | ⟨_, _, z, _⟩)
               · rw [List.mem_singleton.1 hx] at q; exact q (ok a ha)
               · cases z
  · rintro (h | ⟨x, hx, q⟩ | h)
    · rw [List.length_map] at h
      exact h ⟨hk.1, hk.2.1⟩
    · obtain ⟨w, hw, rfl⟩ := List.mem_map.1 hx
      exact q ⟨w, rfl, hk.2.2.2 w hw⟩
    · exact h (List.Pairwise.map _ (fun a b hab z => hab (by cases z; rfl)) hk.2.2.1)
theorem cut_any {xs : List V} {k : Nat} : cutV xs none (some (k : Int)) = xs.take k := by
  unfold cutV
  rw [HT.sIx_nat, HT.sIx_none, List.drop_zero, Nat.sub_zero]
  by_cases h : k ≤ xs.length
  · rw [Nat.min_eq_left h]
  · rw [Nat.min_eq_right (by omega), List.take_of_length_le (Nat.le_refl _), List.take_of_length_le (by omega)]
theorem good_n {m a b : Nat} (ha : a < 10) (hb : b < 10) (hab : a ≤ b) : ¬ BadN (wnums m a b) :=
  (ver_good (m := m) (ks := ["a"]) ha hb hab ⟨by decide, by decide, by decide, fun w hw => by rw [List.mem_singleton.1 hw]; exact ⟨⟨by decide, by decide, by decide +kernel⟩, by decide +kernel⟩⟩).1
theorem w_good {K : PySem.W.Frag} {A : Ad} {l : List Asn} {H : Hp} {m a b : Nat} {ks : List Str} {v : Str} {Q : VK} {E : XK} (S : Sep l H) (hm : m < 4) (ha : a < 10) (hb : b < 10) (hn : ks ≠ []) (hw : ∀ w ∈ ks, Wd w) (hz : ks.length ≤ 4)
    (hv : ∀ v', (Ver (wnums m a b) (ks.map V.str) (some v') ∨ (Ver (wnums m a b) (ks.map V.str) none ∧ v' = "")) → v' = v) (k : ∀ H', Sep l H' → Q (.str v) H') : sp_law_what K A [.str (fT a b ks m)] H Q E := by
  have hl := fT_len (a := a) (b := b) (fun w hx => (hw w hx).2.1) hz m
  refine ⟨_, l, rfl, S, .inl ⟨_, rfl, by omega, ?_⟩⟩
  rw [split_form hn hw]
  refine ⟨fun m' a' b' ks' h v' hv' H' S' => ?_, fun h => (h ⟨m, a, b, ks, hm, ha, hb, rfl, hn, hw⟩).elim⟩
  obtain ⟨e1, e2, e3, e4⟩ := toks_one (A := A) hm h
  rw [e3, e2] at hv'
  rw [hv v' hv']
  exact k H' S'
theorem w_no {K : PySem.W.Frag} {A : Ad} {l : List Asn} {H : Hp} {w : Str} {Q : VK} {E : XK} (S : Sep l H) (hl : w.length ≤ 800) (h : NoR (Txt.split w ⟨#[32]⟩)) (k : ∀ H', Sep l H' → Q (.str "text") H') : sp_law_what K A [.str w] H Q E :=
  ⟨_, l, rfl, S, .inl ⟨w, rfl, hl, fun m a b ks hw => (h ⟨m, a, b, ks, hw⟩).elim, fun _ => k⟩⟩
theorem w_nstr {K : PySem.W.Frag} {A : Ad} {l : List Asn} {H : Hp} {x : V} {Q : VK} {E : XK} (S : Sep l H) (h : ∃ t, TyX K H x t ∧ PySem.W.kitOne K t (.type "str") = some false) (k : ∀ H', Sep l H' → Q (.str "text") H') : sp_law_what K A [x] H Q E :=
  h.elim fun t h => ⟨_, l, rfl, S, .inr ⟨t, h.1, h.2, k⟩⟩
theorem v_ok {m a b : Nat} {ks : List Str} (ha : a < 10) (hb : b < 10) (hab : a ≤ b) (hk : Kds ks) : ∀ v', (Ver (wnums m a b) (ks.map V.str) (some v') ∨ (Ver (wnums m a b) (ks.map V.str) none ∧ v' = "")) → v' = "" := by
  obtain ⟨g1, g2⟩ := ver_good (m := m) ha hb hab hk
  rintro v' (h | ⟨_, h⟩)
  · rcases h with ⟨z, _⟩ | ⟨_, z, _⟩ | ⟨_, _, z⟩
    · exact (g1 z).elim
    · exact (g2 z).elim
    · cases z
  · exact h
theorem v_kinds {m a b : Nat} {ks : List Str} (ha : a < 10) (hb : b < 10) (hab : a ≤ b) (hk : BadK (ks.map V.str)) : ∀ v', (Ver (wnums m a b) (ks.map V.str) (some v') ∨ (Ver (wnums m a b) (ks.map V.str) none ∧ v' = "")) → v' = "kinds" := by
  have g1 := good_n (m := m) ha hb hab
  rintro v' (h | ⟨h, _⟩)
  · rcases h with ⟨z, _⟩ | ⟨_, _, z⟩ | ⟨_, _, z⟩
    · exact (g1 z).elim
    · cases z; rfl
    · cases z
  · rcases h with ⟨z, _⟩ | ⟨_, _, z⟩ | ⟨_, z, _⟩
    · exact (g1 z).elim
    · cases z
    · exact (z hk).elim
theorem v_num {a b : Nat} {ks : List Str} (hab : b < a) : ∀ v', (Ver (wnums 2 a b) (ks.map V.str) (some v') ∨ (Ver (wnums 2 a b) (ks.map V.str) none ∧ v' = "")) → v' = "number" := by
  have g1 : BadN (wnums 2 a b) := .inr ⟨a, b, rfl, by omega⟩
  rintro v' (h | ⟨h, _⟩)
  · rcases h with ⟨_, z⟩ | ⟨z, _⟩ | ⟨z, _⟩
    · cases z; rfl
    · exact (z g1).elim
    · exact (z g1).elim
  · rcases h with ⟨_, z⟩ | ⟨z, _⟩ | ⟨z, _⟩
    · cases z
    · exact (z g1).elim
    · exact (z g1).elim
theorem bk_barred {ks : List Str} {w : Str} (h : w ∈ ks) (hb : w ∈ barredL) : BadK (ks.map V.str) := .inr (.inl ⟨.str w, List.mem_map.2 ⟨w, h, rfl⟩, fun ⟨v, e, z⟩ => by cases e; exact z.2 hb⟩)
def sp_law (K : PySem.W.Frag) : Sp := fun vs H Q _ => ∃ (a : Addr) (ns : List Int), vs = [.ref a] ∧ SqL K H a (ns.map V.int) ∧ ns.length ≤ 63 ∧ ∀ H', Q (.bl true) H'
theorem ok_law (T : Txt K mg A) : FnOk P w K mg base CX0 12 A.f_law A.fd_law ["script"] (sp_law K) := by
  refine T.F_law.ok sc_law (fun vs H Q E h => ?_) (fun cdv A' outer s0 H vs Q E hr h => ?_)
  · obtain ⟨a, ns, rfl, _⟩ := h
    rfl
  · obtain ⟨a, ns, rfl, hS, hz, k⟩ := h
    refine ⟨_, (pss_cons (ps_set (i := 1) sc_law.nd rfl (.inl rfl) (pe_call (ok_law_source T) (hr.mono (by decide)) rfl T.m_law_source T.k_law_source T.b_law_source .nil pass0 (pa_cons (pv 0) pa_nil)))
      (pss_cons (ps_set (i := 2) sc_law.nd rfl (.inl rfl) (pe_call (ok_law_kinds T) (hr.mono (by decide)) rfl T.m_law_kinds T.k_law_kinds T.b_law_kinds .nil pass0 (pa_cons (pv 1) (pa_cons pe_int pa_nil))))
      (pss_cons (ps_set (i := 3) sc_law.nd rfl (.inl rfl) (pe_slice (sl_g (K := K) rfl) (pv 2) po_none (po_some (pe_op op_gAdd pe_int (pe_call (ok_law_draw T) (hr.mono (by decide)) rfl T.m_law_draw T.k_law_draw T.b_law_draw .nil pass0 (pa_cons (pv 1) (pa_cons pe_int pa_nil)))))))
      (pss_cons (ps_set (i := 4) sc_law.nd rfl (.inl rfl) (pe_call (ok_law_draw T) (hr.mono (by decide)) rfl T.m_law_draw T.k_law_draw T.b_law_draw .nil pass0 (pa_cons (pv 1) (pa_cons pe_int pa_nil))))
      (pss_cons (ps_set (i := 5) sc_law.nd rfl (.inl rfl) (pe_op op_gAdd (pv 4) (pe_call (ok_law_draw T) (hr.mono (by decide)) rfl T.m_law_draw T.k_law_draw T.b_law_draw .nil pass0 (pa_cons (pv 1) (pa_cons (pe_op op_gSub pe_int (pv 4)) pa_nil)))))
      (pss_cons (ps_set (i := 6) sc_law.nd rfl (.inl rfl) (pe_call (ok_law_draw T) (hr.mono (by decide)) rfl T.m_law_draw T.k_law_draw T.b_law_draw .nil pass0 (pa_cons (pv 1) (pa_cons pe_int pa_nil))))
      (pss_cons (ps_set (i := 7) sc_law.nd rfl (.inl rfl) (pe_call (ok_law_draw T) (hr.mono (by decide)) rfl T.m_law_draw T.k_law_draw T.b_law_draw .nil pass0 (pa_cons (pv 1) (pa_cons pe_int pa_nil))))
      (pss_cons (ps_set (i := 8) sc_law.nd rfl (.inl rfl) (pe_ix (ix_g (K := K) rfl) (pe_call (ok_law_forms T) (hr.mono (by decide)) rfl T.m_law_forms T.k_law_forms T.b_law_forms .nil pass0 (pa_cons (pv 4) (pa_cons (pv 5) (pa_cons (pv 3) pa_nil)))) (pv 6) (fun _ _ => rfl)))
      (pss_cons (ps_if (PW.pt (pw_or (pt_cmpR (op_gNe (K := K) rfl hr.units) (pe_call (ok_law_what T) (hr.mono (by decide)) rfl T.m_law_what T.k_law_what T.b_law_what .nil pass0 (pa_cons (pv 8) pa_nil)) pe_str (nomark _)) (pw_or1 (pt_cmpR (op_gNe (K := K) rfl hr.units) (pe_call (ok_law_what T) (hr.mono (by decide)) rfl T.m_law_what T.k_law_what T.b_law_what .nil pass0 (pa_cons (pe_call (ok_law_no_string T) (hr.mono (by decide)) rfl T.m_law_no_string T.k_law_no_string T.b_law_no_string .nil pass0 (pa_cons (pe_call (ok_law_draw T) (hr.mono (by decide)) rfl T.m_law_draw T.k_law_draw T.b_law_draw .nil pass0 (pa_cons (pv 1) (pa_cons pe_int pa_nil))) pa_nil)) pa_nil)) pe_str (nomark _))))) (pss_one (ps_ret pe_bl)) pss_nil)
      (pss_cut (ps_if (pt_cmpR (op_gNe (K := K) rfl hr.units) (pe_call (ok_law_what T) (hr.mono (by decide)) rfl T.m_law_what T.k_law_what T.b_law_what .nil pass0 (pa_cons (pe_call (ok_law_faulty T) (hr.mono (by decide)) rfl T.m_law_faulty T.k_law_faulty T.b_law_faulty .nil pass0 (pa_cons (pv 7) (pa_cons (pv 6) (pa_cons (pv 8) (pa_cons (pe_gJoin (K := K) rfl pe_str (pv 3)) pa_nil))))) pa_nil)) pe_str (nomark _)) (pss_one (ps_ret pe_bl)) pss_nil)
      (pss_cut (ps_set (i := 9) sc_law.nd rfl (.inl rfl) (pe_ix (ix_g (K := K) rfl) (pe_lst (pa_cons (pv 2) (pa_cons (pe_op op_gAdd (pv 3) (pe_lst (pa_cons (pe_ix (ix_g (K := K) rfl) (pv 3) pe_int (fun _ _ => rfl)) pa_nil))) (pa_cons (pe_lst (pa_cons pe_str pa_nil)) (pa_cons (pe_op op_gAdd (pe_slice (sl_g (K := K) rfl) (pv 3) po_none (po_some pe_int)) (pe_lst (pa_cons pe_str pa_nil))) pa_nil))))) (pe_call (ok_law_draw T) (hr.mono (by decide)) rfl T.m_law_draw T.k_law_draw T.b_law_draw .nil pass0 (pa_cons (pv 1) (pa_cons pe_int pa_nil))) (fun _ _ => rfl)))
      (pss_cons (ps_if (pt_cmpR (op_gNe (K := K) rfl hr.units) (pe_call (ok_law_what T) (hr.mono (by decide)) rfl T.m_law_what T.k_law_what T.b_law_what .nil pass0 (pa_cons (pe_ix (ix_g (K := K) rfl) (pe_call (ok_law_forms T) (hr.mono (by decide)) rfl T.m_law_forms T.k_law_forms T.b_law_forms .nil pass0 (pa_cons (pv 4) (pa_cons (pv 5) (pa_cons (pv 9) pa_nil)))) (pv 6) (fun _ _ => rfl)) pa_nil)) pe_str (nomark _)) (pss_one (ps_ret pe_bl)) pss_nil)
      (pss_cut (ps_if (pt_cmpR op_gGt (pv 5) (pv 4) (nomark _)) (pss_cons (ps_set (i := 10) sc_law.nd rfl (.inl rfl) (pe_ix (ix_g (K := K) rfl) (pe_call (ok_law_forms T) (hr.mono (by decide)) rfl T.m_law_forms T.k_law_forms T.b_law_forms .nil pass0 (pa_cons (pv 5) (pa_cons (pv 4) (pa_cons (pv 9) pa_nil)))) pe_int (fun _ _ => rfl)))
      (pss_cons (ps_if (PW.pt (pw_or (pt_cmpR (op_gNe (K := K) rfl hr.units) (pe_call (ok_law_what T) (hr.mono (by decide)) rfl T.m_law_what T.k_law_what T.b_law_what .nil pass0 (pa_cons (pv 10) pa_nil)) pe_str (nomark _)) (pw_or1 (pt_cmpR (op_gNe (K := K) rfl hr.units) (pe_call (ok_law_what T) (hr.mono (by decide)) rfl T.m_law_what T.k_law_what T.b_law_what .nil pass0 (pa_cons (pe_ix (ix_g (K := K) rfl) (pe_call (ok_law_forms T) (hr.mono (by decide)) rfl T.m_law_forms T.k_law_forms T.b_law_forms .nil pass0 (pa_cons (pv 5) (pa_cons (pv 4) (pa_cons (pv 3) pa_nil)))) pe_int (fun _ _ => rfl)) pa_nil)) pe_str (nomark _))))) (pss_one (ps_ret pe_bl)) pss_nil)
      (pss_one (ps_if (pt_cmpR (op_gNe (K := K) rfl hr.units) (pe_call (ok_law_what T) (hr.mono (by decide)) rfl T.m_law_what T.k_law_what T.b_law_what .nil pass0 (pa_cons (pe_op op_gAdd (pv 10) pe_str) pa_nil)) pe_str (nomark _)) (pss_one (ps_ret pe_bl)) pss_nil)))) pss_nil)
      (pss_one (ps_ret (pe_cmpR (op_gEq (K := K) rfl hr.units) (pe_call (ok_law_what T) (hr.mono (by decide)) rfl T.m_law_what T.k_law_what T.b_law_what .nil pass0 (pa_cons (pe_ix (ix_g (K := K) rfl) (pe_call (ok_law_forms T) (hr.mono (by decide)) rfl T.m_law_forms T.k_law_forms T.b_law_forms .nil pass0 (pa_cons (pv 5) (pa_cons (pv 5) (pa_cons (pv 3) pa_nil)))) pe_int (fun _ _ => rfl)) pa_nil)) pe_str (nomark _))))))))))))))))), ?_⟩
    walk_at "v"
    refine ⟨a, ns, [], rfl, hS, hz, Sep.nil, fun s H1 S1 => ?_⟩
    walk_at "v"
    rename_i D ws H2 hwl hwn hwk S2 r H3 r0 r3 S3
    clear S1 S2
    obtain ⟨nr, hnr⟩ : ∃ n : Nat, 1 + r = n := ⟨(1 + r).toNat, by omega⟩
    rw [hnr]
    have l4 : ws.length = 4 := by omega
    refine s_lst S3 has0 fun D2 H4 S4 => ?_
    rw [cut_pre (by rw [List.length_map]; omega), ← List.map_take] at S4
    generalize hgs : ws.take nr = gs at S4
    have hG : Kds gs := by
      subst hgs
      refine ⟨by rw [List.length_take]; omega, by rw [List.length_take]; omega, hwn.sublist (List.take_sublist _ _), fun w hw => hwk w (List.mem_of_mem_take hw)⟩
    clear S3
    walk_at "v"
    rename_i low H5 low0 low10 S5 rr H6 rr0 rr1 S6 mm H7 m0 m4 S7 cc H8 c0 c19 S8
    clear S4 S5 S6 S7
    obtain ⟨na, rfl⟩ : ∃ n : Nat, low = n := ⟨low.toNat, by omega⟩
    obtain ⟨nb, hnb⟩ : ∃ n : Nat, (na : Int) + rr = n := ⟨((na : Int) + rr).toNat, by omega⟩
    obtain ⟨m, rfl⟩ : ∃ n : Nat, mm = n := ⟨mm.toNat, by omega⟩
    obtain ⟨c, rfl⟩ : ∃ n : Nat, cc = n := ⟨cc.toNat, by omega⟩
    have ha : na < 10 := by omega
    have hb : nb < 10 := by omega
    have hab : na ≤ nb := by omega
    have hm : m < 4 := by omega
    have hc : c < 19 := by omega
    rw [hnb]
    have hgn : gs ≠ [] := by intro z; rw [z] at hG; exact absurd hG.1 (by decide)
    have hgw : ∀ w ∈ gs, Wd w := fun w hw => (hG.2.2.2 w hw).1
    have hg8 : ∀ w ∈ gs, w.length ≤ 8 := fun w hw => (hgw w hw).2.1
    have hg4 : gs.length ≤ 4 := by have := hG.2.1; omega
    have four : ∀ {x y : Nat} {zs : List Str} {i : Nat}, i < 4 → ([fT x y zs 0, fT x y zs 1, fT x y zs 2, fT x y zs 3] : List Str)[i]? = some (fT x y zs i) := fun {x y zs i} h => by
      have h4 : i = 0 ∨ i = 1 ∨ i = 2 ∨ i = 3 := by omega
      rcases h4 with rfl | rfl | rfl | rfl <;> rfl
    refine c_law_forms S8 has0 ha hb hg8 hg4 fun g1 H9 S9 => ?_
    walk_at "v"
    rename_i y hy
    rw [Int.toNat_natCast, four hm] at hy
    cases hy
    have S10 := S9.tail
    clear S8 S9
    refine w_good S10 hm ha hb hgn hgw hg4 (v_ok ha hb hab hG) fun H10 S11 => ?_
    clear S10
    walk_at "v"
    rename_i q H11 q0 q7 S12
    obtain ⟨qn, rfl⟩ : ∃ n : Nat, q = n := ⟨q.toNat, by omega⟩
    clear S11
    refine c_no_string S12 (by omega) fun x H12 hx S13 => ?_
    clear S12
    walk_at "v"
    refine w_nstr S13 hx fun H13 S14 => ?_
    clear S13
    walk_at "v"
    refine r_cut (fun σ H => σ = [some (.ref a), some (.ref s), some (.ref D), some (.ref D2), some (.int na), some (.int nb), some (.int m), some (.int c), some (.str (fT na nb gs m)), none, none] ∧ Sep [At D2 (.lst (gs.map V.str)), At D (.lst (ws.map V.str)), Src s] H) ?_ ?_
    · walk_at "v"
      refine c_join S14 has0 hg8 (by rw [show (" + " : Str).length = 3 from rfl]; omega) ?_
      walk_at "v"
      refine c_faulty S14 hc hm ha hb hgn hg4 hgw fun w H14 hwl hwn S15 => ?_
      walk_at "v"
      refine w_no S15 hwl hwn fun H15 S16 => ?_
      walk_at "v"
      exact ⟨rfl, S16⟩
    clear S14
    rintro σ H13 ⟨rfl, S14⟩
    refine r_cut (fun σ H => ∃ (B : Addr) (us : List Str) (i j : Nat) (fr : List Asn), σ = [some (.ref a), some (.ref s), some (.ref D), some (.ref D2), some (.int na), some (.int nb), some (.int m), some (.int c), some (.str (fT na nb gs m)), some (.ref B), none] ∧ us ≠ [] ∧ us.length ≤ 4 ∧ (∀ w ∈ us, Wd w) ∧ BadK (us.map V.str) ∧ fr[i]? = some (At B (.lst (us.map V.str))) ∧ fr[j]? = some (At D2 (.lst (gs.map V.str))) ∧ Sep fr H) ?_ ?_
    · walk_at "v"
      obtain ⟨g0, hg0⟩ : ∃ g0, gs[0]? = some g0 := ⟨_, List.getElem?_eq_getElem (by have := hG.1; omega)⟩
      have hgm := List.mem_of_getElem? hg0
      refine x_lst S14 has0 (v := .str g0) (at_natR (i := 0) (by rw [List.getElem?_map, hg0]; rfl)) ?_
      walk_at "v"
      rename_i p1 H14 S15
      refine o_cat S15 (hasS has0) has0 (by rw [List.length_map, sizeLine_eq]; simp; omega) fun p2 H15 S16 => ?_
      clear S14 S15
      walk_at "v"
      rename_i p3 H16 S17
      refine s_lst S17 (hasS (hasS (hasS has0))) fun p4 H17 S18 => ?_
      rw [show (2 : Int) = ((2 : Nat) : Int) from rfl, cut_any, ← List.map_take] at S18
      clear S16 S17
      walk_at "v"
      rename_i p5 H18 S19
      refine o_cat S19 (hasS has0) has0 (by rw [List.length_map, sizeLine_eq]; simp; omega) fun p6 H19 S20 => ?_
      clear S18 S19
      walk_at "v"
      rename_i p7 H20 S21 q2 H21 q20 q24 S22
      clear S20 S21
      obtain ⟨qm, rfl⟩ : ∃ n : Nat, q2 = n := ⟨q2.toNat, by omega⟩
      have h4 : qm = 0 ∨ qm = 1 ∨ qm = 2 ∨ qm = 3 := by omega
      rcases h4 with rfl | rfl | rfl | rfl
      · refine x_lst S22 has0 (v := .ref D) rfl ?_
        walk_at "v"
        refine ⟨D, ws, 8, 7, _, rfl, by intro z; rw [z] at l4; simp at l4, by omega, fun w hw => (hwk w hw).1, .inl ?_, rfl, rfl, S22⟩
        rw [List.length_map]; omega
      · refine x_lst S22 has0 (v := .ref p2) rfl ?_
        walk_at "v"
        refine ⟨p2, gs ++ [g0], 5, 7, _, rfl, by simp, by rw [List.length_append]; simp; have := hG.2.1; omega, fun w hw => ?_, .inr (.inr ?_), ?_, rfl, S22⟩
        · rcases List.mem_append.1 hw with h | h
          · exact hgw w h
          · rw [List.mem_singleton.1 h]; exact hgw g0 hgm
        · rw [List.map_append]
          intro z
          exact (List.nodup_append.1 z).2.2 _ (List.mem_map.2 ⟨g0, hgm, rfl⟩) _ (List.mem_singleton.2 rfl) rfl
        · rw [List.map_append]; rfl
      · refine x_lst S22 has0 (v := .ref p3) rfl ?_
        walk_at "v"
        exact ⟨p3, [("gone" : Str)], 4, 7, _, rfl, by simp, by simp, fun w hw => by rw [List.mem_singleton.1 hw]; exact ⟨by decide, by decide, by decide +kernel⟩, bk_barred (w := "gone") (List.mem_singleton.2 rfl) (by decide +kernel), rfl, rfl, S22⟩
      · refine x_lst S22 has0 (v := .ref p6) rfl ?_
        walk_at "v"
        refine ⟨p6, gs.take 2 ++ [("if" : Str)], 1, 7, _, rfl, by simp, by rw [List.length_append, List.length_take]; simp; omega, fun w hw => ?_, bk_barred (w := "if") (List.mem_append_right _ (List.mem_singleton.2 rfl)) (by decide +kernel), ?_, rfl, S22⟩
        · rcases List.mem_append.1 hw with h | h
          · exact hgw w (List.mem_of_mem_take h)
          · rw [List.mem_singleton.1 h]; exact ⟨by decide, by decide, by decide +kernel⟩
        · rw [List.map_append]; rfl
    rintro σ H14 ⟨B, us, i, j, fr, rfl, hun, hu4, huw, hub, hi, hj, S15⟩
    have hu8 : ∀ w ∈ us, w.length ≤ 8 := fun w hw => (huw w hw).2.1
    clear S14
    walk_at "v"
    refine c_law_forms S15 hi ha hb hu8 hu4 fun g2 H16 S16 => ?_
    walk_at "v"
    rename_i y hy
    rw [Int.toNat_natCast, four hm] at hy
    cases hy
    refine w_good S16 hm ha hb hun huw hu4 (v_kinds ha hb hab hub) fun H17 S17 => ?_
    have S18 := S17.tail
    clear S15 S16 S17
    walk_at "v"
    refine r_cut (fun σ H => ∃ z, σ = [some (.ref a), some (.ref s), some (.ref D), some (.ref D2), some (.int na), some (.int nb), some (.int m), some (.int c), some (.str (fT na nb gs m)), some (.ref B), z] ∧ Sep fr H) ?_ ?_
    · walk_at "v"
      refine r_ifD (fun e0 => ?_) (fun e0 => ?_)
      · have hba : na < nb := by omega
        walk_at "v"
        refine c_law_forms S18 hi hb ha hu8 hu4 fun g3 H19 S19 => ?_
        walk_at "v"
        refine w_good S19 (by decide) hb ha hun huw hu4 (v_num hba) fun H20 S20 => ?_
        have S21 := S20.tail
        clear S18 S19 S20
        walk_at "v"
        refine c_law_forms S21 hj hb ha hg8 hg4 fun g4 H22 S22 => ?_
        walk_at "v"
        refine w_good S22 (by decide) hb ha hgn hgw hg4 (v_num hba) fun H23 S23 => ?_
        have S24 := S23.tail
        clear S21 S22 S23
        walk_at "v"
        have hfl := fT_len (a := nb) (b := na) hu8 hu4 2
        have l1 : (" " : Str).length = 1 := rfl
        have ez : sizeLine = 16777216 := sizeLine_eq
        refine o_addS (by omega) ?_
        walk_at "v"
        refine w_no S24 (by simp only [str_len_app]; omega) (by rw [fT_hd]; exact fR2 hun huw) fun H25 S25 => ?_
        walk_at "v"
        exact ⟨_, rfl, S25⟩
      · walk_at "v"
        exact ⟨_, rfl, S18⟩
    clear S18
    rintro σ H18 ⟨z, rfl, S18⟩
    walk_at "v"
    refine c_law_forms S18 hj hb hb hg8 hg4 fun g5 H26 S26 => ?_
    walk_at "v"
    refine w_good S26 (by decide) hb hb hgn hgw hg4 (v_ok hb hb (Nat.le_refl _) hG) fun H27 S27 => ?_
    walk_at "v"
    exact k _
end
theorem all_mk {l : PySem.W.OpenLaw} {w : World} {K : PySem.W.Frag} {h : Heap} {mg : Str → Option Value} {fa : Addr} (X : K.In h) (G : h.Ns mainGlobals mg) (hfa : mg "law" = some (.ref fa))
  {f_law_source : Addr} {oc_law_source kV_law_source dc_law_source pm_law_source cd_law_source ct_law_source : Value} {od_law_source an_law_source : Option Addr} {sl_law_source : Array (Option Value)}
  {f_law_mixed : Addr} {oc_law_mixed kV_law_mixed dc_law_mixed pm_law_mixed cd_law_mixed ct_law_mixed : Value} {od_law_mixed an_law_mixed : Option Addr} {sl_law_mixed : Array (Option Value)}
  {f_law_draw : Addr} {oc_law_draw kV_law_draw dc_law_draw pm_law_draw cd_law_draw ct_law_draw : Value} {od_law_draw an_law_draw : Option Addr} {sl_law_draw : Array (Option Value)}
  {f_law_kind : Addr} {oc_law_kind kV_law_kind dc_law_kind pm_law_kind cd_law_kind ct_law_kind : Value} {od_law_kind an_law_kind : Option Addr} {sl_law_kind : Array (Option Value)}
  {f_law_kinds : Addr} {oc_law_kinds kV_law_kinds dc_law_kinds pm_law_kinds cd_law_kinds ct_law_kinds : Value} {od_law_kinds an_law_kinds : Option Addr} {sl_law_kinds : Array (Option Value)}
  {f_is_digit : Addr} {oc_is_digit kV_is_digit dc_is_digit pm_is_digit cd_is_digit ct_is_digit : Value} {od_is_digit an_is_digit : Option Addr} {sl_is_digit : Array (Option Value)}
  {f_begins_as : Addr} {oc_begins_as kV_begins_as dc_begins_as pm_begins_as cd_begins_as ct_begins_as : Value} {od_begins_as an_begins_as : Option Addr} {sl_begins_as : Array (Option Value)}
  {f_BadRule___init__ : Addr} {oc_BadRule___init__ kV_BadRule___init__ dc_BadRule___init__ pm_BadRule___init__ cd_BadRule___init__ ct_BadRule___init__ : Value} {od_BadRule___init__ an_BadRule___init__ : Option Addr} {sl_BadRule___init__ : Array (Option Value)}
  {f_is_word : Addr} {oc_is_word kV_is_word dc_is_word pm_is_word cd_is_word ct_is_word : Value} {od_is_word an_is_word : Option Addr} {sl_is_word : Array (Option Value)}
  {f_words_between_signs : Addr} {oc_words_between_signs kV_words_between_signs dc_words_between_signs pm_words_between_signs cd_words_between_signs ct_words_between_signs : Value} {od_words_between_signs an_words_between_signs : Option Addr} {sl_words_between_signs : Array (Option Value)}
  {f_is_number : Addr} {oc_is_number kV_is_number dc_is_number pm_is_number cd_is_number ct_is_number : Value} {od_is_number an_is_number : Option Addr} {sl_is_number : Array (Option Value)}
  {f_is_index : Addr} {oc_is_index kV_is_index dc_is_index pm_is_index cd_is_index ct_is_index : Value} {od_is_index an_is_index : Option Addr} {sl_is_index : Array (Option Value)}
  {f_is_kind : Addr} {oc_is_kind kV_is_kind dc_is_kind pm_is_kind cd_is_kind ct_is_kind : Value} {od_is_kind an_is_kind : Option Addr} {sl_is_kind : Array (Option Value)}
  {f_check_rule : Addr} {oc_check_rule kV_check_rule dc_check_rule pm_check_rule cd_check_rule ct_check_rule : Value} {od_check_rule an_check_rule : Option Addr} {sl_check_rule : Array (Option Value)}
  {f_Rule___init__ : Addr} {oc_Rule___init__ kV_Rule___init__ dc_Rule___init__ pm_Rule___init__ cd_Rule___init__ ct_Rule___init__ : Value} {od_Rule___init__ an_Rule___init__ : Option Addr} {sl_Rule___init__ : Array (Option Value)}
  {f_AtLeast___init__ : Addr} {oc_AtLeast___init__ kV_AtLeast___init__ dc_AtLeast___init__ pm_AtLeast___init__ cd_AtLeast___init__ ct_AtLeast___init__ : Value} {od_AtLeast___init__ an_AtLeast___init__ : Option Addr} {sl_AtLeast___init__ : Array (Option Value)}
  {f_AtMost___init__ : Addr} {oc_AtMost___init__ kV_AtMost___init__ dc_AtMost___init__ pm_AtMost___init__ cd_AtMost___init__ ct_AtMost___init__ : Value} {od_AtMost___init__ an_AtMost___init__ : Option Addr} {sl_AtMost___init__ : Array (Option Value)}
  {f_Between___init__ : Addr} {oc_Between___init__ kV_Between___init__ dc_Between___init__ pm_Between___init__ cd_Between___init__ ct_Between___init__ : Value} {od_Between___init__ an_Between___init__ : Option Addr} {sl_Between___init__ : Array (Option Value)}
  {f_Exactly___init__ : Addr} {oc_Exactly___init__ kV_Exactly___init__ dc_Exactly___init__ pm_Exactly___init__ cd_Exactly___init__ ct_Exactly___init__ : Value} {od_Exactly___init__ an_Exactly___init__ : Option Addr} {sl_Exactly___init__ : Array (Option Value)}
  {f_read_rule : Addr} {oc_read_rule kV_read_rule dc_read_rule pm_read_rule cd_read_rule ct_read_rule : Value} {od_read_rule an_read_rule : Option Addr} {sl_read_rule : Array (Option Value)}
  {f_law_forms : Addr} {oc_law_forms kV_law_forms dc_law_forms pm_law_forms cd_law_forms ct_law_forms : Value} {od_law_forms an_law_forms : Option Addr} {sl_law_forms : Array (Option Value)}
  {f_law_what : Addr} {oc_law_what kV_law_what dc_law_what pm_law_what cd_law_what ct_law_what : Value} {od_law_what an_law_what : Option Addr} {sl_law_what : Array (Option Value)}
  {f_law_faulty : Addr} {oc_law_faulty kV_law_faulty dc_law_faulty pm_law_faulty cd_law_faulty ct_law_faulty : Value} {od_law_faulty an_law_faulty : Option Addr} {sl_law_faulty : Array (Option Value)}
  {f_law_no_string : Addr} {oc_law_no_string kV_law_no_string dc_law_no_string pm_law_no_string cd_law_no_string ct_law_no_string : Value} {od_law_no_string an_law_no_string : Option Addr} {sl_law_no_string : Array (Option Value)}
  {f_law : Addr} {oc_law kV_law dc_law pm_law cd_law ct_law : Value} {od_law an_law : Option Addr} {sl_law : Array (Option Value)}
  {c_Rule : Addr}
  {c_AtLeast : Addr}
  {c_AtMost : Addr}
  {c_Between : Addr}
  {c_Exactly : Addr}
  {c_BadRule : Addr} {enm_BadRule eq_BadRule : Str} {eN_BadRule : Addr} {ebs_BadRule ebm_BadRule : List Value} {esn_BadRule : List Str} {esub_BadRule : List Value} {eab_BadRule : Bool} {ecol_BadRule : Option Bool} {edd_BadRule : Option Addr} {ek0_BadRule ek1_BadRule ek2_BadRule ek3_BadRule ek5_BadRule : Option Value}
  {c_CountsheldError : Addr}
  {u_DIGITS : Value}
  {u_LETTERS : Value}
  {g_BARRED : Addr} {gd_BARRED : Option Addr} {gi_BARRED : Array Value} {gn_BARRED : Nat} {gs_BARRED : Array (Option Value)}
  (a_law_source : PySem.W.nsIn K mainGlobals "_law_source" = some (some (.ref f_law_source)))
  (a_law_mixed : PySem.W.nsIn K mainGlobals "_law_mixed" = some (some (.ref f_law_mixed)))
  (a_law_draw : PySem.W.nsIn K mainGlobals "_law_draw" = some (some (.ref f_law_draw)))
  (a_law_kind : PySem.W.nsIn K mainGlobals "_law_kind" = some (some (.ref f_law_kind)))
  (a_law_kinds : PySem.W.nsIn K mainGlobals "_law_kinds" = some (some (.ref f_law_kinds)))
  (a_is_digit : PySem.W.nsIn K mainGlobals "is_digit" = some (some (.ref f_is_digit)))
  (a_begins_as : PySem.W.nsIn K mainGlobals "_begins_as" = some (some (.ref f_begins_as)))
  (a_is_word : PySem.W.nsIn K mainGlobals "is_word" = some (some (.ref f_is_word)))
  (a_words_between_signs : PySem.W.nsIn K mainGlobals "_words_between_signs" = some (some (.ref f_words_between_signs)))
  (a_is_number : PySem.W.nsIn K mainGlobals "is_number" = some (some (.ref f_is_number)))
  (a_is_index : PySem.W.nsIn K mainGlobals "is_index" = some (some (.ref f_is_index)))
  (a_is_kind : PySem.W.nsIn K mainGlobals "is_kind" = some (some (.ref f_is_kind)))
  (a_check_rule : PySem.W.nsIn K mainGlobals "_check_rule" = some (some (.ref f_check_rule)))
  (a_read_rule : PySem.W.nsIn K mainGlobals "read_rule" = some (some (.ref f_read_rule)))
  (a_law_forms : PySem.W.nsIn K mainGlobals "_law_forms" = some (some (.ref f_law_forms)))
  (a_law_what : PySem.W.nsIn K mainGlobals "_law_what" = some (some (.ref f_law_what)))
  (a_law_faulty : PySem.W.nsIn K mainGlobals "_law_faulty" = some (some (.ref f_law_faulty)))
  (a_law_no_string : PySem.W.nsIn K mainGlobals "_law_no_string" = some (some (.ref f_law_no_string)))
  (a_law : PySem.W.nsIn K mainGlobals "law" = some (some (.ref f_law)))
  (vm_Rule : PySem.W.nsIn K mainGlobals "Rule" = some (some (.ref c_Rule)))
  (vm_AtLeast : PySem.W.nsIn K mainGlobals "AtLeast" = some (some (.ref c_AtLeast)))
  (vm_AtMost : PySem.W.nsIn K mainGlobals "AtMost" = some (some (.ref c_AtMost)))
  (vm_Between : PySem.W.nsIn K mainGlobals "Between" = some (some (.ref c_Between)))
  (vm_Exactly : PySem.W.nsIn K mainGlobals "Exactly" = some (some (.ref c_Exactly)))
  (vm_BadRule : PySem.W.nsIn K mainGlobals "BadRule" = some (some (.ref c_BadRule)))
  (l_law_source : K.lookup f_law_source = some ⟨oc_law_source, od_law_source, .func (PySem.W.fnOf "_law_source" "_law_source" (defArgs s_law_source) (defBody s_law_source) (defScope s_law_source) .none kV_law_source dc_law_source pm_law_source an_law_source cd_law_source ct_law_source), sl_law_source⟩)
  (cd2_law_source : PySem.W.codeIn K cd_law_source "_law_source" = true)
  (kp_law_source : PySem.W.keepIn K (.ref f_law_source) = true)
  (l_law_mixed : K.lookup f_law_mixed = some ⟨oc_law_mixed, od_law_mixed, .func (PySem.W.fnOf "_law_mixed" "_law_mixed" (defArgs s_law_mixed) (defBody s_law_mixed) (defScope s_law_mixed) .none kV_law_mixed dc_law_mixed pm_law_mixed an_law_mixed cd_law_mixed ct_law_mixed), sl_law_mixed⟩)
  (cd2_law_mixed : PySem.W.codeIn K cd_law_mixed "_law_mixed" = true)
  (kp_law_mixed : PySem.W.keepIn K (.ref f_law_mixed) = true)
  (l_law_draw : K.lookup f_law_draw = some ⟨oc_law_draw, od_law_draw, .func (PySem.W.fnOf "_law_draw" "_law_draw" (defArgs s_law_draw) (defBody s_law_draw) (defScope s_law_draw) .none kV_law_draw dc_law_draw pm_law_draw an_law_draw cd_law_draw ct_law_draw), sl_law_draw⟩)
  (cd2_law_draw : PySem.W.codeIn K cd_law_draw "_law_draw" = true)
  (kp_law_draw : PySem.W.keepIn K (.ref f_law_draw) = true)
  (l_law_kind : K.lookup f_law_kind = some ⟨oc_law_kind, od_law_kind, .func (PySem.W.fnOf "_law_kind" "_law_kind" (defArgs s_law_kind) (defBody s_law_kind) (defScope s_law_kind) .none kV_law_kind dc_law_kind pm_law_kind an_law_kind cd_law_kind ct_law_kind), sl_law_kind⟩)
  (cd2_law_kind : PySem.W.codeIn K cd_law_kind "_law_kind" = true)
  (kp_law_kind : PySem.W.keepIn K (.ref f_law_kind) = true)
  (l_law_kinds : K.lookup f_law_kinds = some ⟨oc_law_kinds, od_law_kinds, .func (PySem.W.fnOf "_law_kinds" "_law_kinds" (defArgs s_law_kinds) (defBody s_law_kinds) (defScope s_law_kinds) .none kV_law_kinds dc_law_kinds pm_law_kinds an_law_kinds cd_law_kinds ct_law_kinds), sl_law_kinds⟩)
  (cd2_law_kinds : PySem.W.codeIn K cd_law_kinds "_law_kinds" = true)
  (kp_law_kinds : PySem.W.keepIn K (.ref f_law_kinds) = true)
  (l_is_digit : K.lookup f_is_digit = some ⟨oc_is_digit, od_is_digit, .func (PySem.W.fnOf "is_digit" "is_digit" (defArgs s_is_digit) (defBody s_is_digit) (defScope s_is_digit) .none kV_is_digit dc_is_digit pm_is_digit an_is_digit cd_is_digit ct_is_digit), sl_is_digit⟩)
  (cd2_is_digit : PySem.W.codeIn K cd_is_digit "is_digit" = true)
  (kp_is_digit : PySem.W.keepIn K (.ref f_is_digit) = true)
  (l_begins_as : K.lookup f_begins_as = some ⟨oc_begins_as, od_begins_as, .func (PySem.W.fnOf "_begins_as" "_begins_as" (defArgs s_begins_as) (defBody s_begins_as) (defScope s_begins_as) .none kV_begins_as dc_begins_as pm_begins_as an_begins_as cd_begins_as ct_begins_as), sl_begins_as⟩)
  (cd2_begins_as : PySem.W.codeIn K cd_begins_as "_begins_as" = true)
  (kp_begins_as : PySem.W.keepIn K (.ref f_begins_as) = true)
  (a_BadRule___init__ : PySem.W.findIn K (.ref c_BadRule) "__init__" = some (some (.ref f_BadRule___init__)))
  (l_BadRule___init__ : K.lookup f_BadRule___init__ = some ⟨oc_BadRule___init__, od_BadRule___init__, .func (PySem.W.fnOf "__init__" "BadRule.__init__" (defArgs s_BadRule___init__) (defBody s_BadRule___init__) (defScope s_BadRule___init__) .none kV_BadRule___init__ dc_BadRule___init__ pm_BadRule___init__ an_BadRule___init__ cd_BadRule___init__ ct_BadRule___init__), sl_BadRule___init__⟩)
  (cd2_BadRule___init__ : PySem.W.codeIn K cd_BadRule___init__ "BadRule.__init__" = true)
  (kp_BadRule___init__ : PySem.W.keepIn K (.ref f_BadRule___init__) = true)
  (l_is_word : K.lookup f_is_word = some ⟨oc_is_word, od_is_word, .func (PySem.W.fnOf "is_word" "is_word" (defArgs s_is_word) (defBody s_is_word) (defScope s_is_word) .none kV_is_word dc_is_word pm_is_word an_is_word cd_is_word ct_is_word), sl_is_word⟩)
  (cd2_is_word : PySem.W.codeIn K cd_is_word "is_word" = true)
  (kp_is_word : PySem.W.keepIn K (.ref f_is_word) = true)
  (l_words_between_signs : K.lookup f_words_between_signs = some ⟨oc_words_between_signs, od_words_between_signs, .func (PySem.W.fnOf "_words_between_signs" "_words_between_signs" (defArgs s_words_between_signs) (defBody s_words_between_signs) (defScope s_words_between_signs) .none kV_words_between_signs dc_words_between_signs pm_words_between_signs an_words_between_signs cd_words_between_signs ct_words_between_signs), sl_words_between_signs⟩)
  (cd2_words_between_signs : PySem.W.codeIn K cd_words_between_signs "_words_between_signs" = true)
  (kp_words_between_signs : PySem.W.keepIn K (.ref f_words_between_signs) = true)
  (l_is_number : K.lookup f_is_number = some ⟨oc_is_number, od_is_number, .func (PySem.W.fnOf "is_number" "is_number" (defArgs s_is_number) (defBody s_is_number) (defScope s_is_number) .none kV_is_number dc_is_number pm_is_number an_is_number cd_is_number ct_is_number), sl_is_number⟩)
  (cd2_is_number : PySem.W.codeIn K cd_is_number "is_number" = true)
  (kp_is_number : PySem.W.keepIn K (.ref f_is_number) = true)
  (l_is_index : K.lookup f_is_index = some ⟨oc_is_index, od_is_index, .func (PySem.W.fnOf "is_index" "is_index" (defArgs s_is_index) (defBody s_is_index) (defScope s_is_index) .none kV_is_index dc_is_index pm_is_index an_is_index cd_is_index ct_is_index), sl_is_index⟩)
  (cd2_is_index : PySem.W.codeIn K cd_is_index "is_index" = true)
  (kp_is_index : PySem.W.keepIn K (.ref f_is_index) = true)
  (l_is_kind : K.lookup f_is_kind = some ⟨oc_is_kind, od_is_kind, .func (PySem.W.fnOf "is_kind" "is_kind" (defArgs s_is_kind) (defBody s_is_kind) (defScope s_is_kind) .none kV_is_kind dc_is_kind pm_is_kind an_is_kind cd_is_kind ct_is_kind), sl_is_kind⟩)
  (cd2_is_kind : PySem.W.codeIn K cd_is_kind "is_kind" = true)
  (kp_is_kind : PySem.W.keepIn K (.ref f_is_kind) = true)
  (l_check_rule : K.lookup f_check_rule = some ⟨oc_check_rule, od_check_rule, .func (PySem.W.fnOf "_check_rule" "_check_rule" (defArgs s_check_rule) (defBody s_check_rule) (defScope s_check_rule) .none kV_check_rule dc_check_rule pm_check_rule an_check_rule cd_check_rule ct_check_rule), sl_check_rule⟩)
  (cd2_check_rule : PySem.W.codeIn K cd_check_rule "_check_rule" = true)
  (kp_check_rule : PySem.W.keepIn K (.ref f_check_rule) = true)
  (a_Rule___init__ : PySem.W.findIn K (.ref c_Rule) "__init__" = some (some (.ref f_Rule___init__)))
  (l_Rule___init__ : K.lookup f_Rule___init__ = some ⟨oc_Rule___init__, od_Rule___init__, .func (PySem.W.fnOf "__init__" "Rule.__init__" (defArgs s_Rule___init__) (defBody s_Rule___init__) (defScope s_Rule___init__) .none kV_Rule___init__ dc_Rule___init__ pm_Rule___init__ an_Rule___init__ cd_Rule___init__ ct_Rule___init__), sl_Rule___init__⟩)
  (cd2_Rule___init__ : PySem.W.codeIn K cd_Rule___init__ "Rule.__init__" = true)
  (kp_Rule___init__ : PySem.W.keepIn K (.ref f_Rule___init__) = true)
  (a_AtLeast___init__ : PySem.W.findIn K (.ref c_AtLeast) "__init__" = some (some (.ref f_AtLeast___init__)))
  (l_AtLeast___init__ : K.lookup f_AtLeast___init__ = some ⟨oc_AtLeast___init__, od_AtLeast___init__, .func (PySem.W.fnOf "__init__" "AtLeast.__init__" (defArgs s_AtLeast___init__) (defBody s_AtLeast___init__) (defScope s_AtLeast___init__) .none kV_AtLeast___init__ dc_AtLeast___init__ pm_AtLeast___init__ an_AtLeast___init__ cd_AtLeast___init__ ct_AtLeast___init__), sl_AtLeast___init__⟩)
  (cd2_AtLeast___init__ : PySem.W.codeIn K cd_AtLeast___init__ "AtLeast.__init__" = true)
  (kp_AtLeast___init__ : PySem.W.keepIn K (.ref f_AtLeast___init__) = true)
  (a_AtMost___init__ : PySem.W.findIn K (.ref c_AtMost) "__init__" = some (some (.ref f_AtMost___init__)))
  (l_AtMost___init__ : K.lookup f_AtMost___init__ = some ⟨oc_AtMost___init__, od_AtMost___init__, .func (PySem.W.fnOf "__init__" "AtMost.__init__" (defArgs s_AtMost___init__) (defBody s_AtMost___init__) (defScope s_AtMost___init__) .none kV_AtMost___init__ dc_AtMost___init__ pm_AtMost___init__ an_AtMost___init__ cd_AtMost___init__ ct_AtMost___init__), sl_AtMost___init__⟩)
  (cd2_AtMost___init__ : PySem.W.codeIn K cd_AtMost___init__ "AtMost.__init__" = true)
  (kp_AtMost___init__ : PySem.W.keepIn K (.ref f_AtMost___init__) = true)
  (a_Between___init__ : PySem.W.findIn K (.ref c_Between) "__init__" = some (some (.ref f_Between___init__)))
  (l_Between___init__ : K.lookup f_Between___init__ = some ⟨oc_Between___init__, od_Between___init__, .func (PySem.W.fnOf "__init__" "Between.__init__" (defArgs s_Between___init__) (defBody s_Between___init__) (defScope s_Between___init__) .none kV_Between___init__ dc_Between___init__ pm_Between___init__ an_Between___init__ cd_Between___init__ ct_Between___init__), sl_Between___init__⟩)
  (cd2_Between___init__ : PySem.W.codeIn K cd_Between___init__ "Between.__init__" = true)
  (kp_Between___init__ : PySem.W.keepIn K (.ref f_Between___init__) = true)
  (a_Exactly___init__ : PySem.W.findIn K (.ref c_Exactly) "__init__" = some (some (.ref f_Exactly___init__)))
  (l_Exactly___init__ : K.lookup f_Exactly___init__ = some ⟨oc_Exactly___init__, od_Exactly___init__, .func (PySem.W.fnOf "__init__" "Exactly.__init__" (defArgs s_Exactly___init__) (defBody s_Exactly___init__) (defScope s_Exactly___init__) .none kV_Exactly___init__ dc_Exactly___init__ pm_Exactly___init__ an_Exactly___init__ cd_Exactly___init__ ct_Exactly___init__), sl_Exactly___init__⟩)
  (cd2_Exactly___init__ : PySem.W.codeIn K cd_Exactly___init__ "Exactly.__init__" = true)
  (kp_Exactly___init__ : PySem.W.keepIn K (.ref f_Exactly___init__) = true)
  (l_read_rule : K.lookup f_read_rule = some ⟨oc_read_rule, od_read_rule, .func (PySem.W.fnOf "read_rule" "read_rule" (defArgs s_read_rule) (defBody s_read_rule) (defScope s_read_rule) .none kV_read_rule dc_read_rule pm_read_rule an_read_rule cd_read_rule ct_read_rule), sl_read_rule⟩)
  (cd2_read_rule : PySem.W.codeIn K cd_read_rule "read_rule" = true)
  (kp_read_rule : PySem.W.keepIn K (.ref f_read_rule) = true)
  (l_law_forms : K.lookup f_law_forms = some ⟨oc_law_forms, od_law_forms, .func (PySem.W.fnOf "_law_forms" "_law_forms" (defArgs s_law_forms) (defBody s_law_forms) (defScope s_law_forms) .none kV_law_forms dc_law_forms pm_law_forms an_law_forms cd_law_forms ct_law_forms), sl_law_forms⟩)
  (cd2_law_forms : PySem.W.codeIn K cd_law_forms "_law_forms" = true)
  (kp_law_forms : PySem.W.keepIn K (.ref f_law_forms) = true)
  (l_law_what : K.lookup f_law_what = some ⟨oc_law_what, od_law_what, .func (PySem.W.fnOf "_law_what" "_law_what" (defArgs s_law_what) (defBody s_law_what) (defScope s_law_what) .none kV_law_what dc_law_what pm_law_what an_law_what cd_law_what ct_law_what), sl_law_what⟩)
  (cd2_law_what : PySem.W.codeIn K cd_law_what "_law_what" = true)
  (kp_law_what : PySem.W.keepIn K (.ref f_law_what) = true)
  (l_law_faulty : K.lookup f_law_faulty = some ⟨oc_law_faulty, od_law_faulty, .func (PySem.W.fnOf "_law_faulty" "_law_faulty" (defArgs s_law_faulty) (defBody s_law_faulty) (defScope s_law_faulty) .none kV_law_faulty dc_law_faulty pm_law_faulty an_law_faulty cd_law_faulty ct_law_faulty), sl_law_faulty⟩)
  (cd2_law_faulty : PySem.W.codeIn K cd_law_faulty "_law_faulty" = true)
  (kp_law_faulty : PySem.W.keepIn K (.ref f_law_faulty) = true)
  (l_law_no_string : K.lookup f_law_no_string = some ⟨oc_law_no_string, od_law_no_string, .func (PySem.W.fnOf "_law_no_string" "_law_no_string" (defArgs s_law_no_string) (defBody s_law_no_string) (defScope s_law_no_string) .none kV_law_no_string dc_law_no_string pm_law_no_string an_law_no_string cd_law_no_string ct_law_no_string), sl_law_no_string⟩)
  (cd2_law_no_string : PySem.W.codeIn K cd_law_no_string "_law_no_string" = true)
  (kp_law_no_string : PySem.W.keepIn K (.ref f_law_no_string) = true)
  (l_law : K.lookup f_law = some ⟨oc_law, od_law, .func (PySem.W.fnOf "law" "law" (defArgs s_law) (defBody s_law) (defScope s_law) .none kV_law dc_law pm_law an_law cd_law ct_law), sl_law⟩)
  (cd2_law : PySem.W.codeIn K cd_law "law" = true)
  (kp_law : PySem.W.keepIn K (.ref f_law) = true)
  (z_abs : PySem.W.nsIn K mainGlobals "abs" = some none)
  (z_all : PySem.W.nsIn K mainGlobals "all" = some none)
  (z_bool : PySem.W.nsIn K mainGlobals "bool" = some none)
  (z_enumerate : PySem.W.nsIn K mainGlobals "enumerate" = some none)
  (z_int : PySem.W.nsIn K mainGlobals "int" = some none)
  (z_isinstance : PySem.W.nsIn K mainGlobals "isinstance" = some none)
  (z_len : PySem.W.nsIn K mainGlobals "len" = some none)
  (z_list : PySem.W.nsIn K mainGlobals "list" = some none)
  (z_range : PySem.W.nsIn K mainGlobals "range" = some none)
  (z_str : PySem.W.nsIn K mainGlobals "str" = some none)
  (z_tuple : PySem.W.nsIn K mainGlobals "tuple" = some none)
  (z_zip : PySem.W.nsIn K mainGlobals "zip" = some none)
  (pg_Rule : PySem.W.plainGet K c_Rule Str.empty = true)
  (hd_Rule : PySem.W.hasDictIn K c_Rule = true)
  (po_Rule : PySem.W.plainOver K c_Rule = true)
  (sa_Rule : PySem.W.findIn K (.ref c_Rule) "__setattr__" = some (some (.builtin "object.__setattr__")))
  (ia_Rule : PySem.W.findIn K (.ref c_Rule) "__class__" = some (some (.builtin "object.__class__")))
  (im_Rule : PySem.W.mroIn K c_Rule (.type "object") = some true)
  (na_Rule_least : PySem.W.findIn K (.ref c_Rule) "least" = some none)
  (na_Rule_most : PySem.W.findIn K (.ref c_Rule) "most" = some none)
  (na_Rule_kinds : PySem.W.findIn K (.ref c_Rule) "kinds" = some none)
  (mk_Rule : PySem.W.makesIn K c_Rule = true)
  (fn_Rule : PySem.W.isFn K (.ref f_Rule___init__) = true)
  (kc_Rule : PySem.W.keepIn K (.ref c_Rule) = true)
  (rd_Rule : PySem.W.readsIn K c_Rule (.type "type") = true)
  (ga_Rule : PySem.W.specialIn K (.ref c_Rule) "__getattribute__" = some (some (.builtin "type.__getattribute__")))
  (u_Rule___init__ : PySem.W.findCls K (.ref c_Rule) (.type "type") "__init__" = some (.val (.ref f_Rule___init__)))
  (pg_AtLeast : PySem.W.plainGet K c_AtLeast Str.empty = true)
  (hd_AtLeast : PySem.W.hasDictIn K c_AtLeast = true)
  (po_AtLeast : PySem.W.plainOver K c_AtLeast = true)
  (sa_AtLeast : PySem.W.findIn K (.ref c_AtLeast) "__setattr__" = some (some (.builtin "object.__setattr__")))
  (ia_AtLeast : PySem.W.findIn K (.ref c_AtLeast) "__class__" = some (some (.builtin "object.__class__")))
  (im_AtLeast : PySem.W.mroIn K c_AtLeast (.type "object") = some true)
  (na_AtLeast_least : PySem.W.findIn K (.ref c_AtLeast) "least" = some none)
  (na_AtLeast_most : PySem.W.findIn K (.ref c_AtLeast) "most" = some none)
  (na_AtLeast_kinds : PySem.W.findIn K (.ref c_AtLeast) "kinds" = some none)
  (mk_AtLeast : PySem.W.makesIn K c_AtLeast = true)
  (fn_AtLeast : PySem.W.isFn K (.ref f_AtLeast___init__) = true)
  (kc_AtLeast : PySem.W.keepIn K (.ref c_AtLeast) = true)
  (rd_AtLeast : PySem.W.readsIn K c_AtLeast (.type "type") = true)
  (ga_AtLeast : PySem.W.specialIn K (.ref c_AtLeast) "__getattribute__" = some (some (.builtin "type.__getattribute__")))
  (u_AtLeast___init__ : PySem.W.findCls K (.ref c_AtLeast) (.type "type") "__init__" = some (.val (.ref f_AtLeast___init__)))
  (pg_AtMost : PySem.W.plainGet K c_AtMost Str.empty = true)
  (hd_AtMost : PySem.W.hasDictIn K c_AtMost = true)
  (po_AtMost : PySem.W.plainOver K c_AtMost = true)
  (sa_AtMost : PySem.W.findIn K (.ref c_AtMost) "__setattr__" = some (some (.builtin "object.__setattr__")))
  (ia_AtMost : PySem.W.findIn K (.ref c_AtMost) "__class__" = some (some (.builtin "object.__class__")))
  (im_AtMost : PySem.W.mroIn K c_AtMost (.type "object") = some true)
  (na_AtMost_least : PySem.W.findIn K (.ref c_AtMost) "least" = some none)
  (na_AtMost_most : PySem.W.findIn K (.ref c_AtMost) "most" = some none)
  (na_AtMost_kinds : PySem.W.findIn K (.ref c_AtMost) "kinds" = some none)
  (mk_AtMost : PySem.W.makesIn K c_AtMost = true)
  (fn_AtMost : PySem.W.isFn K (.ref f_AtMost___init__) = true)
  (kc_AtMost : PySem.W.keepIn K (.ref c_AtMost) = true)
  (rd_AtMost : PySem.W.readsIn K c_AtMost (.type "type") = true)
  (ga_AtMost : PySem.W.specialIn K (.ref c_AtMost) "__getattribute__" = some (some (.builtin "type.__getattribute__")))
  (u_AtMost___init__ : PySem.W.findCls K (.ref c_AtMost) (.type "type") "__init__" = some (.val (.ref f_AtMost___init__)))
  (pg_Between : PySem.W.plainGet K c_Between Str.empty = true)
  (hd_Between : PySem.W.hasDictIn K c_Between = true)
  (po_Between : PySem.W.plainOver K c_Between = true)
  (sa_Between : PySem.W.findIn K (.ref c_Between) "__setattr__" = some (some (.builtin "object.__setattr__")))
  (ia_Between : PySem.W.findIn K (.ref c_Between) "__class__" = some (some (.builtin "object.__class__")))
  (im_Between : PySem.W.mroIn K c_Between (.type "object") = some true)
  (na_Between_least : PySem.W.findIn K (.ref c_Between) "least" = some none)
  (na_Between_most : PySem.W.findIn K (.ref c_Between) "most" = some none)
  (na_Between_kinds : PySem.W.findIn K (.ref c_Between) "kinds" = some none)
  (mk_Between : PySem.W.makesIn K c_Between = true)
  (fn_Between : PySem.W.isFn K (.ref f_Between___init__) = true)
  (kc_Between : PySem.W.keepIn K (.ref c_Between) = true)
  (rd_Between : PySem.W.readsIn K c_Between (.type "type") = true)
  (ga_Between : PySem.W.specialIn K (.ref c_Between) "__getattribute__" = some (some (.builtin "type.__getattribute__")))
  (u_Between___init__ : PySem.W.findCls K (.ref c_Between) (.type "type") "__init__" = some (.val (.ref f_Between___init__)))
  (pg_Exactly : PySem.W.plainGet K c_Exactly Str.empty = true)
  (hd_Exactly : PySem.W.hasDictIn K c_Exactly = true)
  (po_Exactly : PySem.W.plainOver K c_Exactly = true)
  (sa_Exactly : PySem.W.findIn K (.ref c_Exactly) "__setattr__" = some (some (.builtin "object.__setattr__")))
  (ia_Exactly : PySem.W.findIn K (.ref c_Exactly) "__class__" = some (some (.builtin "object.__class__")))
  (im_Exactly : PySem.W.mroIn K c_Exactly (.type "object") = some true)
  (na_Exactly_least : PySem.W.findIn K (.ref c_Exactly) "least" = some none)
  (na_Exactly_most : PySem.W.findIn K (.ref c_Exactly) "most" = some none)
  (na_Exactly_kinds : PySem.W.findIn K (.ref c_Exactly) "kinds" = some none)
  (mk_Exactly : PySem.W.makesIn K c_Exactly = true)
  (fn_Exactly : PySem.W.isFn K (.ref f_Exactly___init__) = true)
  (kc_Exactly : PySem.W.keepIn K (.ref c_Exactly) = true)
  (rd_Exactly : PySem.W.readsIn K c_Exactly (.type "type") = true)
  (ga_Exactly : PySem.W.specialIn K (.ref c_Exactly) "__getattribute__" = some (some (.builtin "type.__getattribute__")))
  (u_Exactly___init__ : PySem.W.findCls K (.ref c_Exactly) (.type "type") "__init__" = some (.val (.ref f_Exactly___init__)))
  (ihn : PySem.W.specialIn K (.builtin "object.__class__") "__get__" = some (some (.builtin "getset_descriptor.__get__")))
  (iht : PySem.W.takesIn K (.builtin "object.__class__") = some true)
  (kit_Rule_Rule : PySem.W.kitOne K (.ref c_Rule) (.ref c_Rule) = some true)
  (kit_Rule_AtLeast : PySem.W.kitOne K (.ref c_Rule) (.ref c_AtLeast) = some false)
  (kit_Rule_AtMost : PySem.W.kitOne K (.ref c_Rule) (.ref c_AtMost) = some false)
  (kit_Rule_Between : PySem.W.kitOne K (.ref c_Rule) (.ref c_Between) = some false)
  (kit_Rule_Exactly : PySem.W.kitOne K (.ref c_Rule) (.ref c_Exactly) = some false)
  (kit_AtLeast_Rule : PySem.W.kitOne K (.ref c_AtLeast) (.ref c_Rule) = some true)
  (kit_AtLeast_AtLeast : PySem.W.kitOne K (.ref c_AtLeast) (.ref c_AtLeast) = some true)
  (kit_AtLeast_AtMost : PySem.W.kitOne K (.ref c_AtLeast) (.ref c_AtMost) = some false)
  (kit_AtLeast_Between : PySem.W.kitOne K (.ref c_AtLeast) (.ref c_Between) = some false)
  (kit_AtLeast_Exactly : PySem.W.kitOne K (.ref c_AtLeast) (.ref c_Exactly) = some false)
  (kit_AtMost_Rule : PySem.W.kitOne K (.ref c_AtMost) (.ref c_Rule) = some true)
  (kit_AtMost_AtLeast : PySem.W.kitOne K (.ref c_AtMost) (.ref c_AtLeast) = some false)
  (kit_AtMost_AtMost : PySem.W.kitOne K (.ref c_AtMost) (.ref c_AtMost) = some true)
  (kit_AtMost_Between : PySem.W.kitOne K (.ref c_AtMost) (.ref c_Between) = some false)
  (kit_AtMost_Exactly : PySem.W.kitOne K (.ref c_AtMost) (.ref c_Exactly) = some false)
  (kit_Between_Rule : PySem.W.kitOne K (.ref c_Between) (.ref c_Rule) = some true)
  (kit_Between_AtLeast : PySem.W.kitOne K (.ref c_Between) (.ref c_AtLeast) = some true)
  (kit_Between_AtMost : PySem.W.kitOne K (.ref c_Between) (.ref c_AtMost) = some true)
  (kit_Between_Between : PySem.W.kitOne K (.ref c_Between) (.ref c_Between) = some true)
  (kit_Between_Exactly : PySem.W.kitOne K (.ref c_Between) (.ref c_Exactly) = some false)
  (kit_Exactly_Rule : PySem.W.kitOne K (.ref c_Exactly) (.ref c_Rule) = some true)
  (kit_Exactly_AtLeast : PySem.W.kitOne K (.ref c_Exactly) (.ref c_AtLeast) = some true)
  (kit_Exactly_AtMost : PySem.W.kitOne K (.ref c_Exactly) (.ref c_AtMost) = some true)
  (kit_Exactly_Between : PySem.W.kitOne K (.ref c_Exactly) (.ref c_Between) = some true)
  (kit_Exactly_Exactly : PySem.W.kitOne K (.ref c_Exactly) (.ref c_Exactly) = some true)
  (ec_DIGITS : PySem.W.nsIn K mainGlobals "_DIGITS" = some (some u_DIGITS))
  (er_DIGITS : RelV (.str "0123456789") u_DIGITS)
  (ec_LETTERS : PySem.W.nsIn K mainGlobals "_LETTERS" = some (some u_LETTERS))
  (er_LETTERS : RelV (.str "abcdefghijklmnopqrstuvwxyz") u_LETTERS)
  (ec_BARRED : PySem.W.nsIn K mainGlobals "_BARRED" = some (some (.ref g_BARRED)))
  (el_BARRED : K.lookup g_BARRED = some ⟨.type "tuple", gd_BARRED, .seq gi_BARRED gn_BARRED, gs_BARRED⟩)
  (ez_BARRED : gi_BARRED.size ≤ sizeLine)
  (ev_BARRED : Vals [V.str "hold", V.str "look", V.str "do", V.str "row", V.str "one", V.str "all", V.str "new", V.str "give", V.str "take", V.str "join", V.str "other", V.str "if", V.str "and", V.str "or", V.str "then", V.str "gone"] gi_BARRED.toList)
  (xl_BadRule : K.lookup c_BadRule = some (excClassObj enm_BadRule eq_BadRule c_BadRule eN_BadRule ebs_BadRule ebm_BadRule true esn_BadRule esub_BadRule eab_BadRule ecol_BadRule edd_BadRule ek0_BadRule ek1_BadRule ek2_BadRule ek3_BadRule ek5_BadRule "ValueError.__new__"))
  (xr_BadRule : PySem.HandSPX.refsVE ebm_BadRule = true)
  (xs_BadRule : PySem.W.findIn K (.ref c_BadRule) "__setattr__" = some (some (.builtin "object.__setattr__")))
  (xb_BadRule : PySem.W.subIn K (.ref c_BadRule) (.type "BaseException") = some true)
  (xt_BadRule : PySem.W.typeIn K (.ref c_BadRule) = some (.type "type"))
  (xk_BadRule : PySem.W.keepIn K (.ref c_BadRule) = true)
  (xi_BadRule : PySem.W.typeIn K (.ref f_BadRule___init__) = some (.type "function"))
  (xn_BadRule_what : PySem.W.findIn K (.ref c_BadRule) "what" = some none)
  (ts_BadRule_BadRule : PySem.W.subIn K (.ref c_BadRule) (.ref c_BadRule) = some true)
  (tc_BadRule : PySem.W.isClsIn K c_BadRule = true)
  (xg_BadRule : PySem.W.findIn K (.ref c_BadRule) "__getattribute__" = some (some (.builtin "BaseException.__getattribute__")))
  (xh_BadRule : PySem.W.findIn K (.ref c_BadRule) "__getattr__" = some none)
  (xd_BadRule : PySem.W.hasDictIn K c_BadRule = true)
  (xa_BadRule : PySem.W.findIn K (.ref c_BadRule) "__class__" = some (some (.builtin "object.__class__")))
  (xm_BadRule : PySem.W.mroIn K c_BadRule (.type "object") = some true)
  (xcn : PySem.W.specialIn K (.builtin "object.__class__") "__get__" = some (some (.builtin "getset_descriptor.__get__")))
  (xct : PySem.W.takesIn K (.builtin "object.__class__") = some true)
  (vm_CountsheldError : PySem.W.nsIn K mainGlobals "CountsheldError" = some (some (.ref c_CountsheldError)))
  (kt_BadRule_CountsheldError : PySem.W.kitOne K (.ref c_BadRule) (.ref c_CountsheldError) = some true)
    : ∃ fd : FuncData, (∀ (s : Shared) (v : Value), BindsTo s fd ⟨[v], []⟩ [("script", v)]) ∧ ∀ base : Heap, K.In base → base.Ns mainGlobals mg → FnOk l.prog w K mg base CX0 12 fa fd ["script"] (sp_law K) := by
  have e := hfa.symm.trans (PySem.W.mg_of X G a_law)
  cases e
  have T : Txt K mg { f_law_source := f_law_source, fd_law_source := PySem.W.fnOf "_law_source" "_law_source" (defArgs s_law_source) (defBody s_law_source) (defScope s_law_source) .none kV_law_source dc_law_source pm_law_source an_law_source cd_law_source ct_law_source, f_law_mixed := f_law_mixed, fd_law_mixed := PySem.W.fnOf "_law_mixed" "_law_mixed" (defArgs s_law_mixed) (defBody s_law_mixed) (defScope s_law_mixed) .none kV_law_mixed dc_law_mixed pm_law_mixed an_law_mixed cd_law_mixed ct_law_mixed, f_law_draw := f_law_draw, fd_law_draw := PySem.W.fnOf "_law_draw" "_law_draw" (defArgs s_law_draw) (defBody s_law_draw) (defScope s_law_draw) .none kV_law_draw dc_law_draw pm_law_draw an_law_draw cd_law_draw ct_law_draw, f_law_kind := f_law_kind, fd_law_kind := PySem.W.fnOf "_law_kind" "_law_kind" (defArgs s_law_kind) (defBody s_law_kind) (defScope s_law_kind) .none kV_law_kind dc_law_kind pm_law_kind an_law_kind cd_law_kind ct_law_kind, f_law_kinds := f_law_kinds, fd_law_kinds := PySem.W.fnOf "_law_kinds" "_law_kinds" (defArgs s_law_kinds) (defBody s_law_kinds) (defScope s_law_kinds) .none kV_law_kinds dc_law_kinds pm_law_kinds an_law_kinds cd_law_kinds ct_law_kinds, f_is_digit := f_is_digit, fd_is_digit := PySem.W.fnOf "is_digit" "is_digit" (defArgs s_is_digit) (defBody s_is_digit) (defScope s_is_digit) .none kV_is_digit dc_is_digit pm_is_digit an_is_digit cd_is_digit ct_is_digit, f_begins_as := f_begins_as, fd_begins_as := PySem.W.fnOf "_begins_as" "_begins_as" (defArgs s_begins_as) (defBody s_begins_as) (defScope s_begins_as) .none kV_begins_as dc_begins_as pm_begins_as an_begins_as cd_begins_as ct_begins_as, f_BadRule___init__ := f_BadRule___init__, fd_BadRule___init__ := PySem.W.fnOf "__init__" "BadRule.__init__" (defArgs s_BadRule___init__) (defBody s_BadRule___init__) (defScope s_BadRule___init__) .none kV_BadRule___init__ dc_BadRule___init__ pm_BadRule___init__ an_BadRule___init__ cd_BadRule___init__ ct_BadRule___init__, f_is_word := f_is_word, fd_is_word := PySem.W.fnOf "is_word" "is_word" (defArgs s_is_word) (defBody s_is_word) (defScope s_is_word) .none kV_is_word dc_is_word pm_is_word an_is_word cd_is_word ct_is_word, f_words_between_signs := f_words_between_signs, fd_words_between_signs := PySem.W.fnOf "_words_between_signs" "_words_between_signs" (defArgs s_words_between_signs) (defBody s_words_between_signs) (defScope s_words_between_signs) .none kV_words_between_signs dc_words_between_signs pm_words_between_signs an_words_between_signs cd_words_between_signs ct_words_between_signs, f_is_number := f_is_number, fd_is_number := PySem.W.fnOf "is_number" "is_number" (defArgs s_is_number) (defBody s_is_number) (defScope s_is_number) .none kV_is_number dc_is_number pm_is_number an_is_number cd_is_number ct_is_number, f_is_index := f_is_index, fd_is_index := PySem.W.fnOf "is_index" "is_index" (defArgs s_is_index) (defBody s_is_index) (defScope s_is_index) .none kV_is_index dc_is_index pm_is_index an_is_index cd_is_index ct_is_index, f_is_kind := f_is_kind, fd_is_kind := PySem.W.fnOf "is_kind" "is_kind" (defArgs s_is_kind) (defBody s_is_kind) (defScope s_is_kind) .none kV_is_kind dc_is_kind pm_is_kind an_is_kind cd_is_kind ct_is_kind, f_check_rule := f_check_rule, fd_check_rule := PySem.W.fnOf "_check_rule" "_check_rule" (defArgs s_check_rule) (defBody s_check_rule) (defScope s_check_rule) .none kV_check_rule dc_check_rule pm_check_rule an_check_rule cd_check_rule ct_check_rule, f_Rule___init__ := f_Rule___init__, fd_Rule___init__ := PySem.W.fnOf "__init__" "Rule.__init__" (defArgs s_Rule___init__) (defBody s_Rule___init__) (defScope s_Rule___init__) .none kV_Rule___init__ dc_Rule___init__ pm_Rule___init__ an_Rule___init__ cd_Rule___init__ ct_Rule___init__, f_AtLeast___init__ := f_AtLeast___init__, fd_AtLeast___init__ := PySem.W.fnOf "__init__" "AtLeast.__init__" (defArgs s_AtLeast___init__) (defBody s_AtLeast___init__) (defScope s_AtLeast___init__) .none kV_AtLeast___init__ dc_AtLeast___init__ pm_AtLeast___init__ an_AtLeast___init__ cd_AtLeast___init__ ct_AtLeast___init__, f_AtMost___init__ := f_AtMost___init__, fd_AtMost___init__ := PySem.W.fnOf "__init__" "AtMost.__init__" (defArgs s_AtMost___init__) (defBody s_AtMost___init__) (defScope s_AtMost___init__) .none kV_AtMost___init__ dc_AtMost___init__ pm_AtMost___init__ an_AtMost___init__ cd_AtMost___init__ ct_AtMost___init__, f_Between___init__ := f_Between___init__, fd_Between___init__ := PySem.W.fnOf "__init__" "Between.__init__" (defArgs s_Between___init__) (defBody s_Between___init__) (defScope s_Between___init__) .none kV_Between___init__ dc_Between___init__ pm_Between___init__ an_Between___init__ cd_Between___init__ ct_Between___init__, f_Exactly___init__ := f_Exactly___init__, fd_Exactly___init__ := PySem.W.fnOf "__init__" "Exactly.__init__" (defArgs s_Exactly___init__) (defBody s_Exactly___init__) (defScope s_Exactly___init__) .none kV_Exactly___init__ dc_Exactly___init__ pm_Exactly___init__ an_Exactly___init__ cd_Exactly___init__ ct_Exactly___init__, f_read_rule := f_read_rule, fd_read_rule := PySem.W.fnOf "read_rule" "read_rule" (defArgs s_read_rule) (defBody s_read_rule) (defScope s_read_rule) .none kV_read_rule dc_read_rule pm_read_rule an_read_rule cd_read_rule ct_read_rule, f_law_forms := f_law_forms, fd_law_forms := PySem.W.fnOf "_law_forms" "_law_forms" (defArgs s_law_forms) (defBody s_law_forms) (defScope s_law_forms) .none kV_law_forms dc_law_forms pm_law_forms an_law_forms cd_law_forms ct_law_forms, f_law_what := f_law_what, fd_law_what := PySem.W.fnOf "_law_what" "_law_what" (defArgs s_law_what) (defBody s_law_what) (defScope s_law_what) .none kV_law_what dc_law_what pm_law_what an_law_what cd_law_what ct_law_what, f_law_faulty := f_law_faulty, fd_law_faulty := PySem.W.fnOf "_law_faulty" "_law_faulty" (defArgs s_law_faulty) (defBody s_law_faulty) (defScope s_law_faulty) .none kV_law_faulty dc_law_faulty pm_law_faulty an_law_faulty cd_law_faulty ct_law_faulty, f_law_no_string := f_law_no_string, fd_law_no_string := PySem.W.fnOf "_law_no_string" "_law_no_string" (defArgs s_law_no_string) (defBody s_law_no_string) (defScope s_law_no_string) .none kV_law_no_string dc_law_no_string pm_law_no_string an_law_no_string cd_law_no_string ct_law_no_string, f_law := fa, fd_law := PySem.W.fnOf "law" "law" (defArgs s_law) (defBody s_law) (defScope s_law) .none kV_law dc_law pm_law an_law cd_law ct_law, c_Rule := c_Rule, c_AtLeast := c_AtLeast, c_AtMost := c_AtMost, c_Between := c_Between, c_Exactly := c_Exactly, c_BadRule := c_BadRule, c_CountsheldError := c_CountsheldError, g_BARRED := g_BARRED } :=
    { vm_BadRule := PySem.W.mg_of X G vm_BadRule,
      ox_BadRule := ⟨⟨_, _, _, _, _, _, _, _, _, _, _, _, _, _, _, xl_BadRule, xr_BadRule⟩, xs_BadRule, xb_BadRule, xt_BadRule, xk_BadRule⟩,
      oi_BadRule := a_BadRule___init__,
      ot_BadRule := xi_BadRule,
      xn_BadRule_what := xn_BadRule_what,
      te_BadRule_BadRule := exm_pair xb_BadRule tc_BadRule xt_BadRule ts_BadRule_BadRule,
      xf_BadRule := ⟨xg_BadRule, xh_BadRule, xb_BadRule, xd_BadRule⟩,
      xc_BadRule := ⟨xg_BadRule, xh_BadRule, xb_BadRule, xd_BadRule, xa_BadRule, xcn, xct, xm_BadRule⟩,
      vm_CountsheldError := PySem.W.mg_of X G vm_CountsheldError,
      kit_BadRule_CountsheldError := kt_BadRule_CountsheldError,
      F_law_source := fun_mk (st := s_law_source) l_law_source cd2_law_source kp_law_source,
      m_law_source := PySem.W.mg_of X G a_law_source,
      k_law_source := kp_law_source,
      b_law_source := (fun_mk (st := s_law_source) l_law_source cd2_law_source kp_law_source).binds (ps := ["script"]) fun _ _ _ _ _ _ us hl => match us, hl with | [_], _ => rfl,
      F_law_mixed := fun_mk (st := s_law_mixed) l_law_mixed cd2_law_mixed kp_law_mixed,
      m_law_mixed := PySem.W.mg_of X G a_law_mixed,
      k_law_mixed := kp_law_mixed,
      b_law_mixed := (fun_mk (st := s_law_mixed) l_law_mixed cd2_law_mixed kp_law_mixed).binds (ps := ["cell", "count"]) fun _ _ _ _ _ _ us hl => match us, hl with | [_, _], _ => rfl,
      F_law_draw := fun_mk (st := s_law_draw) l_law_draw cd2_law_draw kp_law_draw,
      m_law_draw := PySem.W.mg_of X G a_law_draw,
      k_law_draw := kp_law_draw,
      b_law_draw := (fun_mk (st := s_law_draw) l_law_draw cd2_law_draw kp_law_draw).binds (ps := ["source", "size"]) fun _ _ _ _ _ _ us hl => match us, hl with | [_, _], _ => rfl,
      F_law_kind := fun_mk (st := s_law_kind) l_law_kind cd2_law_kind kp_law_kind,
      m_law_kind := PySem.W.mg_of X G a_law_kind,
      k_law_kind := kp_law_kind,
      b_law_kind := (fun_mk (st := s_law_kind) l_law_kind cd2_law_kind kp_law_kind).binds (ps := ["source", "taken"]) fun _ _ _ _ _ _ us hl => match us, hl with | [_, _], _ => rfl,
      F_law_kinds := fun_mk (st := s_law_kinds) l_law_kinds cd2_law_kinds kp_law_kinds,
      m_law_kinds := PySem.W.mg_of X G a_law_kinds,
      k_law_kinds := kp_law_kinds,
      b_law_kinds := (fun_mk (st := s_law_kinds) l_law_kinds cd2_law_kinds kp_law_kinds).binds (ps := ["source", "many"]) fun _ _ _ _ _ _ us hl => match us, hl with | [_, _], _ => rfl,
      F_is_digit := fun_mk (st := s_is_digit) l_is_digit cd2_is_digit kp_is_digit,
      m_is_digit := PySem.W.mg_of X G a_is_digit,
      k_is_digit := kp_is_digit,
      b_is_digit := (fun_mk (st := s_is_digit) l_is_digit cd2_is_digit kp_is_digit).binds (ps := ["value"]) fun _ _ _ _ _ _ us hl => match us, hl with | [_], _ => rfl,
      F_begins_as := fun_mk (st := s_begins_as) l_begins_as cd2_begins_as kp_begins_as,
      m_begins_as := PySem.W.mg_of X G a_begins_as,
      k_begins_as := kp_begins_as,
      b_begins_as := (fun_mk (st := s_begins_as) l_begins_as cd2_begins_as kp_begins_as).binds (ps := ["tokens", "form"]) fun _ _ _ _ _ _ us hl => match us, hl with | [_, _], _ => rfl,
      F_BadRule___init__ := fun_mk (st := s_BadRule___init__) l_BadRule___init__ cd2_BadRule___init__ kp_BadRule___init__,
      b_BadRule___init__ := (fun_mk (st := s_BadRule___init__) l_BadRule___init__ cd2_BadRule___init__ kp_BadRule___init__).binds (ps := ["self", "what"]) fun _ _ _ _ _ _ us hl => match us, hl with | [_, _], _ => rfl,
      F_is_word := fun_mk (st := s_is_word) l_is_word cd2_is_word kp_is_word,
      m_is_word := PySem.W.mg_of X G a_is_word,
      k_is_word := kp_is_word,
      b_is_word := (fun_mk (st := s_is_word) l_is_word cd2_is_word kp_is_word).binds (ps := ["value"]) fun _ _ _ _ _ _ us hl => match us, hl with | [_], _ => rfl,
      F_words_between_signs := fun_mk (st := s_words_between_signs) l_words_between_signs cd2_words_between_signs kp_words_between_signs,
      m_words_between_signs := PySem.W.mg_of X G a_words_between_signs,
      k_words_between_signs := kp_words_between_signs,
      b_words_between_signs := (fun_mk (st := s_words_between_signs) l_words_between_signs cd2_words_between_signs kp_words_between_signs).binds (ps := ["tokens"]) fun _ _ _ _ _ _ us hl => match us, hl with | [_], _ => rfl,
      F_is_number := fun_mk (st := s_is_number) l_is_number cd2_is_number kp_is_number,
      m_is_number := PySem.W.mg_of X G a_is_number,
      k_is_number := kp_is_number,
      b_is_number := (fun_mk (st := s_is_number) l_is_number cd2_is_number kp_is_number).binds (ps := ["value"]) fun _ _ _ _ _ _ us hl => match us, hl with | [_], _ => rfl,
      F_is_index := fun_mk (st := s_is_index) l_is_index cd2_is_index kp_is_index,
      m_is_index := PySem.W.mg_of X G a_is_index,
      k_is_index := kp_is_index,
      b_is_index := (fun_mk (st := s_is_index) l_is_index cd2_is_index kp_is_index).binds (ps := ["value", "end"]) fun _ _ _ _ _ _ us hl => match us, hl with | [_, _], _ => rfl,
      F_is_kind := fun_mk (st := s_is_kind) l_is_kind cd2_is_kind kp_is_kind,
      m_is_kind := PySem.W.mg_of X G a_is_kind,
      k_is_kind := kp_is_kind,
      b_is_kind := (fun_mk (st := s_is_kind) l_is_kind cd2_is_kind kp_is_kind).binds (ps := ["value"]) fun _ _ _ _ _ _ us hl => match us, hl with | [_], _ => rfl,
      F_check_rule := fun_mk (st := s_check_rule) l_check_rule cd2_check_rule kp_check_rule,
      m_check_rule := PySem.W.mg_of X G a_check_rule,
      k_check_rule := kp_check_rule,
      b_check_rule := (fun_mk (st := s_check_rule) l_check_rule cd2_check_rule kp_check_rule).binds (ps := ["numbers", "kinds"]) fun _ _ _ _ _ _ us hl => match us, hl with | [_, _], _ => rfl,
      F_Rule___init__ := fun_mk (st := s_Rule___init__) l_Rule___init__ cd2_Rule___init__ kp_Rule___init__,
      b_Rule___init__ := (fun_mk (st := s_Rule___init__) l_Rule___init__ cd2_Rule___init__ kp_Rule___init__).binds (ps := ["self", "least", "most", "kinds"]) fun _ _ _ _ _ _ us hl => match us, hl with | [_, _, _, _], _ => rfl,
      F_AtLeast___init__ := fun_mk (st := s_AtLeast___init__) l_AtLeast___init__ cd2_AtLeast___init__ kp_AtLeast___init__,
      F_AtMost___init__ := fun_mk (st := s_AtMost___init__) l_AtMost___init__ cd2_AtMost___init__ kp_AtMost___init__,
      F_Between___init__ := fun_mk (st := s_Between___init__) l_Between___init__ cd2_Between___init__ kp_Between___init__,
      F_Exactly___init__ := fun_mk (st := s_Exactly___init__) l_Exactly___init__ cd2_Exactly___init__ kp_Exactly___init__,
      F_read_rule := fun_mk (st := s_read_rule) l_read_rule cd2_read_rule kp_read_rule,
      m_read_rule := PySem.W.mg_of X G a_read_rule,
      k_read_rule := kp_read_rule,
      b_read_rule := (fun_mk (st := s_read_rule) l_read_rule cd2_read_rule kp_read_rule).binds (ps := ["text"]) fun _ _ _ _ _ _ us hl => match us, hl with | [_], _ => rfl,
      F_law_forms := fun_mk (st := s_law_forms) l_law_forms cd2_law_forms kp_law_forms,
      m_law_forms := PySem.W.mg_of X G a_law_forms,
      k_law_forms := kp_law_forms,
      b_law_forms := (fun_mk (st := s_law_forms) l_law_forms cd2_law_forms kp_law_forms).binds (ps := ["low", "high", "kinds"]) fun _ _ _ _ _ _ us hl => match us, hl with | [_, _, _], _ => rfl,
      F_law_what := fun_mk (st := s_law_what) l_law_what cd2_law_what kp_law_what,
      m_law_what := PySem.W.mg_of X G a_law_what,
      k_law_what := kp_law_what,
      b_law_what := (fun_mk (st := s_law_what) l_law_what cd2_law_what kp_law_what).binds (ps := ["text"]) fun _ _ _ _ _ _ us hl => match us, hl with | [_], _ => rfl,
      F_law_faulty := fun_mk (st := s_law_faulty) l_law_faulty cd2_law_faulty kp_law_faulty,
      m_law_faulty := PySem.W.mg_of X G a_law_faulty,
      k_law_faulty := kp_law_faulty,
      b_law_faulty := (fun_mk (st := s_law_faulty) l_law_faulty cd2_law_faulty kp_law_faulty).binds (ps := ["choice", "mode", "text", "names"]) fun _ _ _ _ _ _ us hl => match us, hl with | [_, _, _, _], _ => rfl,
      F_law_no_string := fun_mk (st := s_law_no_string) l_law_no_string cd2_law_no_string kp_law_no_string,
      m_law_no_string := PySem.W.mg_of X G a_law_no_string,
      k_law_no_string := kp_law_no_string,
      b_law_no_string := (fun_mk (st := s_law_no_string) l_law_no_string cd2_law_no_string kp_law_no_string).binds (ps := ["choice"]) fun _ _ _ _ _ _ us hl => match us, hl with | [_], _ => rfl,
      F_law := fun_mk (st := s_law) l_law cd2_law kp_law,
      m_law := PySem.W.mg_of X G a_law,
      k_law := kp_law,
      b_law := (fun_mk (st := s_law) l_law cd2_law kp_law).binds (ps := ["script"]) fun _ _ _ _ _ _ us hl => match us, hl with | [_], _ => rfl,
      n_abs := PySem.W.mg_none_of X G z_abs,
      n_all := PySem.W.mg_none_of X G z_all,
      n_bool := PySem.W.mg_none_of X G z_bool,
      n_enumerate := PySem.W.mg_none_of X G z_enumerate,
      n_int := PySem.W.mg_none_of X G z_int,
      n_isinstance := PySem.W.mg_none_of X G z_isinstance,
      n_len := PySem.W.mg_none_of X G z_len,
      n_list := PySem.W.mg_none_of X G z_list,
      n_range := PySem.W.mg_none_of X G z_range,
      n_str := PySem.W.mg_none_of X G z_str,
      n_tuple := PySem.W.mg_none_of X G z_tuple,
      n_zip := PySem.W.mg_none_of X G z_zip,
      vm_Rule := PySem.W.mg_of X G vm_Rule,
      kl_Rule := ⟨⟨pg_Rule, hd_Rule, po_Rule, sa_Rule⟩, by intro f hf; simp only [List.mem_cons, List.not_mem_nil, or_false] at hf; rcases hf with rfl | rfl | rfl <;> assumption⟩,
      ki_Rule := ⟨ia_Rule, ihn, iht, im_Rule⟩,
      mk_Rule := ⟨mk_Rule, a_Rule___init__, fn_Rule, kc_Rule⟩,
      r_Rule := ⟨rd_Rule, ga_Rule⟩,
      u_Rule___init__ := u_Rule___init__,
      kp_Rule___init__ := kp_Rule___init__,
      vm_AtLeast := PySem.W.mg_of X G vm_AtLeast,
      kl_AtLeast := ⟨⟨pg_AtLeast, hd_AtLeast, po_AtLeast, sa_AtLeast⟩, by intro f hf; simp only [List.mem_cons, List.not_mem_nil, or_false] at hf; rcases hf with rfl | rfl | rfl <;> assumption⟩,
      ki_AtLeast := ⟨ia_AtLeast, ihn, iht, im_AtLeast⟩,
      mk_AtLeast := ⟨mk_AtLeast, a_AtLeast___init__, fn_AtLeast, kc_AtLeast⟩,
      r_AtLeast := ⟨rd_AtLeast, ga_AtLeast⟩,
      u_AtLeast___init__ := u_AtLeast___init__,
      kp_AtLeast___init__ := kp_AtLeast___init__,
      vm_AtMost := PySem.W.mg_of X G vm_AtMost,
      kl_AtMost := ⟨⟨pg_AtMost, hd_AtMost, po_AtMost, sa_AtMost⟩, by intro f hf; simp only [List.mem_cons, List.not_mem_nil, or_false] at hf; rcases hf with rfl | rfl | rfl <;> assumption⟩,
      ki_AtMost := ⟨ia_AtMost, ihn, iht, im_AtMost⟩,
      mk_AtMost := ⟨mk_AtMost, a_AtMost___init__, fn_AtMost, kc_AtMost⟩,
      r_AtMost := ⟨rd_AtMost, ga_AtMost⟩,
      u_AtMost___init__ := u_AtMost___init__,
      kp_AtMost___init__ := kp_AtMost___init__,
      vm_Between := PySem.W.mg_of X G vm_Between,
      kl_Between := ⟨⟨pg_Between, hd_Between, po_Between, sa_Between⟩, by intro f hf; simp only [List.mem_cons, List.not_mem_nil, or_false] at hf; rcases hf with rfl | rfl | rfl <;> assumption⟩,
      ki_Between := ⟨ia_Between, ihn, iht, im_Between⟩,
      mk_Between := ⟨mk_Between, a_Between___init__, fn_Between, kc_Between⟩,
      r_Between := ⟨rd_Between, ga_Between⟩,
      u_Between___init__ := u_Between___init__,
      kp_Between___init__ := kp_Between___init__,
      vm_Exactly := PySem.W.mg_of X G vm_Exactly,
      kl_Exactly := ⟨⟨pg_Exactly, hd_Exactly, po_Exactly, sa_Exactly⟩, by intro f hf; simp only [List.mem_cons, List.not_mem_nil, or_false] at hf; rcases hf with rfl | rfl | rfl <;> assumption⟩,
      ki_Exactly := ⟨ia_Exactly, ihn, iht, im_Exactly⟩,
      mk_Exactly := ⟨mk_Exactly, a_Exactly___init__, fn_Exactly, kc_Exactly⟩,
      r_Exactly := ⟨rd_Exactly, ga_Exactly⟩,
      u_Exactly___init__ := u_Exactly___init__,
      kp_Exactly___init__ := kp_Exactly___init__,
      kit_Rule_Rule := kit_Rule_Rule,
      kit_Rule_AtLeast := kit_Rule_AtLeast,
      kit_Rule_AtMost := kit_Rule_AtMost,
      kit_Rule_Between := kit_Rule_Between,
      kit_Rule_Exactly := kit_Rule_Exactly,
      kit_AtLeast_Rule := kit_AtLeast_Rule,
      kit_AtLeast_AtLeast := kit_AtLeast_AtLeast,
      kit_AtLeast_AtMost := kit_AtLeast_AtMost,
      kit_AtLeast_Between := kit_AtLeast_Between,
      kit_AtLeast_Exactly := kit_AtLeast_Exactly,
      kit_AtMost_Rule := kit_AtMost_Rule,
      kit_AtMost_AtLeast := kit_AtMost_AtLeast,
      kit_AtMost_AtMost := kit_AtMost_AtMost,
      kit_AtMost_Between := kit_AtMost_Between,
      kit_AtMost_Exactly := kit_AtMost_Exactly,
      kit_Between_Rule := kit_Between_Rule,
      kit_Between_AtLeast := kit_Between_AtLeast,
      kit_Between_AtMost := kit_Between_AtMost,
      kit_Between_Between := kit_Between_Between,
      kit_Between_Exactly := kit_Between_Exactly,
      kit_Exactly_Rule := kit_Exactly_Rule,
      kit_Exactly_AtLeast := kit_Exactly_AtLeast,
      kit_Exactly_AtMost := kit_Exactly_AtMost,
      kit_Exactly_Between := kit_Exactly_Between,
      kit_Exactly_Exactly := kit_Exactly_Exactly,
      e_DIGITS := ⟨_, PySem.W.mg_of X G ec_DIGITS, er_DIGITS⟩,
      e_LETTERS := ⟨_, PySem.W.mg_of X G ec_LETTERS, er_LETTERS⟩,
      e_BARRED := ⟨_, PySem.W.mg_of X G ec_BARRED, rfl⟩,
      t_BARRED := fun H => .inr ⟨_, _, _, el_BARRED, rfl, rfl, ez_BARRED, ev_BARRED⟩ }
  exact ⟨PySem.W.fnOf "law" "law" (defArgs s_law) (defBody s_law) (defScope s_law) .none kV_law dc_law pm_law an_law cd_law ct_law, fun s v => .of_eq rfl, fun base _ _ => ok_law T⟩
theorem walk {l : PySem.W.OpenLaw} {q : Program} {loose : List Str} {XP : (Str → Option Value) → Heap → Prop} {YP : World → Heap → Prop} {d : DefRec} {K : Params → PySem.W.Frag} (hn : l.most = some 63) (hdf : d.params.defaults = [])
    (hY : ∀ (w : World) (h : Heap), YP w h → (K w.params).In h)
    (F : ∀ (w : World) (mg : Str → Option Value) (fa : Addr) (h : Heap), (K w.params).In h → h.Ns mainGlobals mg → mg d.name = some (.ref fa) →
      ∃ fd : FuncData, (∀ (s : Shared) (u : Value), BindsTo s fd ⟨[u], []⟩ [("script", u)]) ∧ ∀ base : Heap, (K w.params).In base → base.Ns mainGlobals mg → FnOk l.prog w (K w.params) mg base CX0 12 fa fd ["script"] (sp_law (K w.params))) :
    PySem.W.WalkO q loose XP YP l.row.toRowW d [] (fun f vs => PySem.call f vs) :=
  L2.walk_of (n := 63) (k := 12) (x := "script") (CX := fun _ => CX0) (sp := fun w => sp_law (K w.params)) hn (by decide) hdf ⟨rfl, by decide, by decide⟩ hY F (fun _ _ a ns hl _ hS => ⟨a, ns, rfl, hS, hl, fun _ => rfl⟩) fun _ _ _ _ _ z => z
end Y
open PySem PySem.W PyProof.Rows
set_option maxRecDepth 100000 in
set_option maxHeartbeats 0 in
theorem PySem.Challenge.cw_countsheld_k17_rules_not_read_holds : PySem.Challenge.rw_countsheld_k17_rules_not_read.Holds := by
  w_on; o_law; k_head; (case hw => w_witness2)
  k_fill
  refine Y.walk (l := PySem.Challenge.rw_countsheld_k17_rules_not_read) rfl rfl (fun w h Y => PySem.W.kIn_of Y) ?F
  case F =>
    intro w mg fa h KX G hmg
    refine' Y.all_mk KX G hmg ?a_law_source ?a_law_mixed ?a_law_draw ?a_law_kind ?a_law_kinds ?a_is_digit ?a_begins_as ?a_is_word ?a_words_between_signs ?a_is_number ?a_is_index ?a_is_kind ?a_check_rule ?a_read_rule ?a_law_forms ?a_law_what ?a_law_faulty ?a_law_no_string ?a_law ?vm_Rule ?vm_AtLeast ?vm_AtMost ?vm_Between ?vm_Exactly ?vm_BadRule ?l_law_source ?cd2_law_source ?kp_law_source ?l_law_mixed ?cd2_law_mixed ?kp_law_mixed ?l_law_draw ?cd2_law_draw ?kp_law_draw ?l_law_kind ?cd2_law_kind ?kp_law_kind ?l_law_kinds ?cd2_law_kinds ?kp_law_kinds ?l_is_digit ?cd2_is_digit ?kp_is_digit ?l_begins_as ?cd2_begins_as ?kp_begins_as ?a_BadRule___init__ ?l_BadRule___init__ ?cd2_BadRule___init__ ?kp_BadRule___init__ ?l_is_word ?cd2_is_word ?kp_is_word ?l_words_between_signs ?cd2_words_between_signs ?kp_words_between_signs ?l_is_number ?cd2_is_number ?kp_is_number ?l_is_index ?cd2_is_index ?kp_is_index ?l_is_kind ?cd2_is_kind ?kp_is_kind ?l_check_rule ?cd2_check_rule ?kp_check_rule ?a_Rule___init__ ?l_Rule___init__ ?cd2_Rule___init__ ?kp_Rule___init__ ?a_AtLeast___init__ ?l_AtLeast___init__ ?cd2_AtLeast___init__ ?kp_AtLeast___init__ ?a_AtMost___init__ ?l_AtMost___init__ ?cd2_AtMost___init__ ?kp_AtMost___init__ ?a_Between___init__ ?l_Between___init__ ?cd2_Between___init__ ?kp_Between___init__ ?a_Exactly___init__ ?l_Exactly___init__ ?cd2_Exactly___init__ ?kp_Exactly___init__ ?l_read_rule ?cd2_read_rule ?kp_read_rule ?l_law_forms ?cd2_law_forms ?kp_law_forms ?l_law_what ?cd2_law_what ?kp_law_what ?l_law_faulty ?cd2_law_faulty ?kp_law_faulty ?l_law_no_string ?cd2_law_no_string ?kp_law_no_string ?l_law ?cd2_law ?kp_law ?z_abs ?z_all ?z_bool ?z_enumerate ?z_int ?z_isinstance ?z_len ?z_list ?z_range ?z_str ?z_tuple ?z_zip ?pg_Rule ?hd_Rule ?po_Rule ?sa_Rule ?ia_Rule ?im_Rule ?na_Rule_least ?na_Rule_most ?na_Rule_kinds ?mk_Rule ?fn_Rule ?kc_Rule ?rd_Rule ?ga_Rule ?u_Rule___init__ ?pg_AtLeast ?hd_AtLeast ?po_AtLeast ?sa_AtLeast ?ia_AtLeast ?im_AtLeast ?na_AtLeast_least ?na_AtLeast_most ?na_AtLeast_kinds ?mk_AtLeast ?fn_AtLeast ?kc_AtLeast ?rd_AtLeast ?ga_AtLeast ?u_AtLeast___init__ ?pg_AtMost ?hd_AtMost ?po_AtMost ?sa_AtMost ?ia_AtMost ?im_AtMost ?na_AtMost_least ?na_AtMost_most ?na_AtMost_kinds ?mk_AtMost ?fn_AtMost ?kc_AtMost ?rd_AtMost ?ga_AtMost ?u_AtMost___init__ ?pg_Between ?hd_Between ?po_Between ?sa_Between ?ia_Between ?im_Between ?na_Between_least ?na_Between_most ?na_Between_kinds ?mk_Between ?fn_Between ?kc_Between ?rd_Between ?ga_Between ?u_Between___init__ ?pg_Exactly ?hd_Exactly ?po_Exactly ?sa_Exactly ?ia_Exactly ?im_Exactly ?na_Exactly_least ?na_Exactly_most ?na_Exactly_kinds ?mk_Exactly ?fn_Exactly ?kc_Exactly ?rd_Exactly ?ga_Exactly ?u_Exactly___init__ ?ihn ?iht ?kit_Rule_Rule ?kit_Rule_AtLeast ?kit_Rule_AtMost ?kit_Rule_Between ?kit_Rule_Exactly ?kit_AtLeast_Rule ?kit_AtLeast_AtLeast ?kit_AtLeast_AtMost ?kit_AtLeast_Between ?kit_AtLeast_Exactly ?kit_AtMost_Rule ?kit_AtMost_AtLeast ?kit_AtMost_AtMost ?kit_AtMost_Between ?kit_AtMost_Exactly ?kit_Between_Rule ?kit_Between_AtLeast ?kit_Between_AtMost ?kit_Between_Between ?kit_Between_Exactly ?kit_Exactly_Rule ?kit_Exactly_AtLeast ?kit_Exactly_AtMost ?kit_Exactly_Between ?kit_Exactly_Exactly ?ec_DIGITS ?er_DIGITS ?ec_LETTERS ?er_LETTERS ?ec_BARRED ?el_BARRED ?ez_BARRED ?ev_BARRED ?xl_BadRule ?xr_BadRule ?xs_BadRule ?xb_BadRule ?xt_BadRule ?xk_BadRule ?xi_BadRule ?xn_BadRule_what ?ts_BadRule_BadRule ?tc_BadRule ?xg_BadRule ?xh_BadRule ?xd_BadRule ?xa_BadRule ?xm_BadRule ?xcn ?xct ?vm_CountsheldError ?kt_BadRule_CountsheldError
    (case a_law_source => k_is)
    (case a_law_mixed => k_is)
    (case a_law_draw => k_is)
    (case a_law_kind => k_is)
    (case a_law_kinds => k_is)
    (case a_is_digit => k_is)
    (case a_begins_as => k_is)
    (case a_is_word => k_is)
    (case a_words_between_signs => k_is)
    (case a_is_number => k_is)
    (case a_is_index => k_is)
    (case a_is_kind => k_is)
    (case a_check_rule => k_is)
    (case a_read_rule => k_is)
    (case a_law_forms => k_is)
    (case a_law_what => k_is)
    (case a_law_faulty => k_is)
    (case a_law_no_string => k_is)
    (case a_law => k_is)
    (case vm_Rule => k_is)
    (case vm_AtLeast => k_is)
    (case vm_AtMost => k_is)
    (case vm_Between => k_is)
    (case vm_Exactly => k_is)
    (case vm_BadRule => k_is)
    (case l_law_source => k_is)
    (case cd2_law_source => k_is)
    (case kp_law_source => k_is)
    (case l_law_mixed => k_is)
    (case cd2_law_mixed => k_is)
    (case kp_law_mixed => k_is)
    (case l_law_draw => k_is)
    (case cd2_law_draw => k_is)
    (case kp_law_draw => k_is)
    (case l_law_kind => k_is)
    (case cd2_law_kind => k_is)
    (case kp_law_kind => k_is)
    (case l_law_kinds => k_is)
    (case cd2_law_kinds => k_is)
    (case kp_law_kinds => k_is)
    (case l_is_digit => k_is)
    (case cd2_is_digit => k_is)
    (case kp_is_digit => k_is)
    (case l_begins_as => k_is)
    (case cd2_begins_as => k_is)
    (case kp_begins_as => k_is)
    (case a_BadRule___init__ => k_is)
    (case l_BadRule___init__ => k_is)
    (case cd2_BadRule___init__ => k_is)
    (case kp_BadRule___init__ => k_is)
    (case l_is_word => k_is)
    (case cd2_is_word => k_is)
    (case kp_is_word => k_is)
    (case l_words_between_signs => k_is)
    (case cd2_words_between_signs => k_is)
    (case kp_words_between_signs => k_is)
    (case l_is_number => k_is)
    (case cd2_is_number => k_is)
    (case kp_is_number => k_is)
    (case l_is_index => k_is)
    (case cd2_is_index => k_is)
    (case kp_is_index => k_is)
    (case l_is_kind => k_is)
    (case cd2_is_kind => k_is)
    (case kp_is_kind => k_is)
    (case l_check_rule => k_is)
    (case cd2_check_rule => k_is)
    (case kp_check_rule => k_is)
    (case a_Rule___init__ => k_is)
    (case l_Rule___init__ => k_is)
    (case cd2_Rule___init__ => k_is)
    (case kp_Rule___init__ => k_is)
    (case a_AtLeast___init__ => k_is)
    (case l_AtLeast___init__ => k_is)
    (case cd2_AtLeast___init__ => k_is)
    (case kp_AtLeast___init__ => k_is)
    (case a_AtMost___init__ => k_is)
    (case l_AtMost___init__ => k_is)
    (case cd2_AtMost___init__ => k_is)
    (case kp_AtMost___init__ => k_is)
    (case a_Between___init__ => k_is)
    (case l_Between___init__ => k_is)
    (case cd2_Between___init__ => k_is)
    (case kp_Between___init__ => k_is)
    (case a_Exactly___init__ => k_is)
    (case l_Exactly___init__ => k_is)
    (case cd2_Exactly___init__ => k_is)
    (case kp_Exactly___init__ => k_is)
    (case l_read_rule => k_is)
    (case cd2_read_rule => k_is)
    (case kp_read_rule => k_is)
    (case l_law_forms => k_is)
    (case cd2_law_forms => k_is)
    (case kp_law_forms => k_is)
    (case l_law_what => k_is)
    (case cd2_law_what => k_is)
    (case kp_law_what => k_is)
    (case l_law_faulty => k_is)
    (case cd2_law_faulty => k_is)
    (case kp_law_faulty => k_is)
    (case l_law_no_string => k_is)
    (case cd2_law_no_string => k_is)
    (case kp_law_no_string => k_is)
    (case l_law => k_is)
    (case cd2_law => k_is)
    (case kp_law => k_is)
    (case z_abs => k_is)
    (case z_all => k_is)
    (case z_bool => k_is)
    (case z_enumerate => k_is)
    (case z_int => k_is)
    (case z_isinstance => k_is)
    (case z_len => k_is)
    (case z_list => k_is)
    (case z_range => k_is)
    (case z_str => k_is)
    (case z_tuple => k_is)
    (case z_zip => k_is)
    (case pg_Rule => k_is)
    (case hd_Rule => k_is)
    (case po_Rule => k_is)
    (case sa_Rule => k_is)
    (case ia_Rule => k_is)
    (case im_Rule => k_is)
    (case na_Rule_least => k_is)
    (case na_Rule_most => k_is)
    (case na_Rule_kinds => k_is)
    (case mk_Rule => k_is)
    (case fn_Rule => k_is)
    (case kc_Rule => k_is)
    (case rd_Rule => k_is)
    (case ga_Rule => k_is)
    (case u_Rule___init__ => k_is)
    (case pg_AtLeast => k_is)
    (case hd_AtLeast => k_is)
    (case po_AtLeast => k_is)
    (case sa_AtLeast => k_is)
    (case ia_AtLeast => k_is)
    (case im_AtLeast => k_is)
    (case na_AtLeast_least => k_is)
    (case na_AtLeast_most => k_is)
    (case na_AtLeast_kinds => k_is)
    (case mk_AtLeast => k_is)
    (case fn_AtLeast => k_is)
    (case kc_AtLeast => k_is)
    (case rd_AtLeast => k_is)
    (case ga_AtLeast => k_is)
    (case u_AtLeast___init__ => k_is)
    (case pg_AtMost => k_is)
    (case hd_AtMost => k_is)
    (case po_AtMost => k_is)
    (case sa_AtMost => k_is)
    (case ia_AtMost => k_is)
    (case im_AtMost => k_is)
    (case na_AtMost_least => k_is)
    (case na_AtMost_most => k_is)
    (case na_AtMost_kinds => k_is)
    (case mk_AtMost => k_is)
    (case fn_AtMost => k_is)
    (case kc_AtMost => k_is)
    (case rd_AtMost => k_is)
    (case ga_AtMost => k_is)
    (case u_AtMost___init__ => k_is)
    (case pg_Between => k_is)
    (case hd_Between => k_is)
    (case po_Between => k_is)
    (case sa_Between => k_is)
    (case ia_Between => k_is)
    (case im_Between => k_is)
    (case na_Between_least => k_is)
    (case na_Between_most => k_is)
    (case na_Between_kinds => k_is)
    (case mk_Between => k_is)
    (case fn_Between => k_is)
    (case kc_Between => k_is)
    (case rd_Between => k_is)
    (case ga_Between => k_is)
    (case u_Between___init__ => k_is)
    (case pg_Exactly => k_is)
    (case hd_Exactly => k_is)
    (case po_Exactly => k_is)
    (case sa_Exactly => k_is)
    (case ia_Exactly => k_is)
    (case im_Exactly => k_is)
    (case na_Exactly_least => k_is)
    (case na_Exactly_most => k_is)
    (case na_Exactly_kinds => k_is)
    (case mk_Exactly => k_is)
    (case fn_Exactly => k_is)
    (case kc_Exactly => k_is)
    (case rd_Exactly => k_is)
    (case ga_Exactly => k_is)
    (case u_Exactly___init__ => k_is)
    (case ihn => k_is)
    (case iht => k_is)
    (case kit_Rule_Rule => kit_is)
    (case kit_Rule_AtLeast => kit_is)
    (case kit_Rule_AtMost => kit_is)
    (case kit_Rule_Between => kit_is)
    (case kit_Rule_Exactly => kit_is)
    (case kit_AtLeast_Rule => kit_is)
    (case kit_AtLeast_AtLeast => kit_is)
    (case kit_AtLeast_AtMost => kit_is)
    (case kit_AtLeast_Between => kit_is)
    (case kit_AtLeast_Exactly => kit_is)
    (case kit_AtMost_Rule => kit_is)
    (case kit_AtMost_AtLeast => kit_is)
    (case kit_AtMost_AtMost => kit_is)
    (case kit_AtMost_Between => kit_is)
    (case kit_AtMost_Exactly => kit_is)
    (case kit_Between_Rule => kit_is)
    (case kit_Between_AtLeast => kit_is)
    (case kit_Between_AtMost => kit_is)
    (case kit_Between_Between => kit_is)
    (case kit_Between_Exactly => kit_is)
    (case kit_Exactly_Rule => kit_is)
    (case kit_Exactly_AtLeast => kit_is)
    (case kit_Exactly_AtMost => kit_is)
    (case kit_Exactly_Between => kit_is)
    (case kit_Exactly_Exactly => kit_is)
    (case ec_DIGITS => k_is)
    (case er_DIGITS => exact ⟨_, rfl⟩)
    (case ec_LETTERS => k_is)
    (case er_LETTERS => exact ⟨_, rfl⟩)
    (case ec_BARRED => k_is)
    (case el_BARRED => k_is)
    (case ez_BARRED => decide)
    (case ev_BARRED => exact .cons ⟨_, rfl⟩ (.cons ⟨_, rfl⟩ (.cons ⟨_, rfl⟩ (.cons ⟨_, rfl⟩ (.cons ⟨_, rfl⟩ (.cons ⟨_, rfl⟩ (.cons ⟨_, rfl⟩ (.cons ⟨_, rfl⟩ (.cons ⟨_, rfl⟩ (.cons ⟨_, rfl⟩ (.cons ⟨_, rfl⟩ (.cons ⟨_, rfl⟩ (.cons ⟨_, rfl⟩ (.cons ⟨_, rfl⟩ (.cons ⟨_, rfl⟩ (.cons ⟨_, rfl⟩ (.nil)))))))))))))))))
    (case xl_BadRule => k_is)
    (case xr_BadRule => decide +kernel)
    (case xs_BadRule => k_is)
    (case xb_BadRule => k_is)
    (case xt_BadRule => k_is)
    (case xk_BadRule => k_is)
    (case xi_BadRule => k_is)
    (case xn_BadRule_what => k_is)
    (case ts_BadRule_BadRule => first | rfl | k_is)
    (case tc_BadRule => k_is)
    (case xg_BadRule => k_is)
    (case xh_BadRule => k_is)
    (case xd_BadRule => k_is)
    (case xa_BadRule => k_is)
    (case xm_BadRule => k_is)
    (case xcn => k_is)
    (case xct => k_is)
    (case vm_CountsheldError => k_is)
    (case kt_BadRule_CountsheldError => kit_is)
